/- The contract of merged. -/
import Derived.Test.YtcjcbbpolhpphaaBlockOwn
import Derived.Test.YtcjcbbpolhpphaaBlockCut
set_option maxRecDepth 20000
set_option linter.unusedSimpArgs false
namespace Go.Proofs.Ytcjcbbpolhpphaa
open Go.RowKit Go.Proofs.Ytcjcbbpolhpphaa.Vi Go.Proofs.Ytcjcbbpolhpphaa.Mk

/-- How far merged is: k points of a are done, bb is left of b, xs is put together. -/
structure MJ (w wr : World) (a b : List Pt) (k : Nat) (bb xs : List Pt) (pb : Option Addr) (cb m r : Nat) (v : Value) : Prop where
  lst : Lst w w.heap.size pb cb bb
  row : PRow wr w.heap.size v xs
  hm : bb.length = m
  hr : xs.length = r
  len : r + m ≤ k + b.length
  eq : mg a b = xs ++ mg (a.drop k) bb
  bel : Below w.heap.size w wr
theorem MJ.later {w wr w2 : World} {a b : List Pt} {k : Nat} {bb xs : List Pt} {pb : Option Addr} {cb m r : Nat} {v : Value} (h : MJ w wr a b k bb xs pb cb m r v) (g : Below wr.heap.size wr w2) : MJ w w2 a b k bb xs pb cb m r v :=
  ⟨h.lst, h.row.later g, h.hm, h.hr, h.len, h.eq, bel_next h.bel g⟩
theorem MJ.step {w wr w2 : World} {a b : List Pt} {k k' : Nat} {bb bb' xs : List Pt} {pb pb' : Option Addr} {cb cb' m m' r : Nat} {v v' : Value} {y : Pt} (h : MJ w wr a b k bb xs pb cb m r v) (hrow : PRow w2 w.heap.size v' (xs ++ [y])) (hb : Below w.heap.size wr w2)
    (hl : Lst w w.heap.size pb' cb' bb') (hm : bb'.length = m') (hlen : r + 1 + m' ≤ k' + b.length) (e : mg (a.drop k) bb = y :: mg (a.drop k') bb') : MJ w w2 a b k' bb' (xs ++ [y]) pb' cb' m' (r + 1) v' :=
  ⟨hl, hrow, hm, by rw [List.length_append, h.hr]; rfl, hlen, by rw [h.eq, e]; simp, h.bel.trans hb⟩
/-- Held: how far merged is, and the point of a in a block of its own. -/
structure PJ (w : World) (a b : List Pt) (k : Nat) (bb xs : List Pt) (pb : Option Addr) (cb m r : Nat) (v : Value) (P : Nat) (p : Pt) (w' : World) : Prop where
  j : MJ w w' a b k bb xs pb cb m r v
  x : PtAt w' P p
  ne : v.ownBlock ≠ some P
theorem PtAt.later {w w' : World} {b : Nat} {p : Pt} (h : PtAt w b p) (k : Below w.heap.size w w') : PtAt w' b p := h.below k h.room
theorem PtAt.grown {w w' : World} {b : Nat} {p : Pt} {row : Option Nat} (h : PtAt w b p) (k : w.grownBy w' row) (hn : row ≠ some b) : PtAt w' b p :=
  ⟨k.cell h.c0 fun e => hn e.symm, k.cell h.c1 fun e => hn e.symm, k.cell h.c2 fun e => hn e.symm, k.cell h.c3 fun e => hn e.symm, k.cell h.c4 fun e => hn e.symm, k.cell h.c5 fun e => hn e.symm⟩
theorem PJ.keep {w w1 w2 : World} {a b : List Pt} {k : Nat} {bb xs : List Pt} {pb : Option Addr} {cb m r : Nat} {v : Value} {P : Nat} {p : Pt} (h : PJ w a b k bb xs pb cb m r v P p w1) (g : Below w1.heap.size w1 w2) : PJ w a b k bb xs pb cb m r v P p w2 := ⟨h.j.later g, h.x.later g, h.ne⟩
theorem PJ.drew {w w1 : World} {a b : List Pt} {k : Nat} {bb xs : List Pt} {pb : Option Addr} {cb m r : Nat} {v : Value} {P : Nat} {p : Pt} (h : PJ w a b k bb xs pb cb m r v P p w1) : PJ w a b k bb xs pb cb m r v P p w1.drew := h.keep ((Below.refl _ _).drew)
theorem Lst.some_ {w : World} {B c : Nat} {a : Option Addr} {q : Pt} {l : List Pt} (h : Lst w B a c (q :: l)) : ∃ b o, a = some ⟨b, o, none⟩ ∧ b < B ∧ PtO w b o q := by
  rcases h.pts.at_ with h | ⟨b, o, e, hb, hc⟩
  · cases h
  · have := hc 0 (by simp)
    simp only [Nat.zero_mul, Nat.add_zero, List.getElem_cons_zero] at this
    exact ⟨b, o, e, hb, this⟩
theorem PRow.lt {w : World} {B : Nat} {v : Value} {xs : List Pt} (h : PRow w B v xs) {P : Nat} (hP : w.heap.size ≤ P) : v.ownBlock ≠ some P := fun e => by
  have := (World.ownsRow.lt h P e).2; omega
theorem ne_grown {v v' : Value} {P N : Nat} (h : v'.ownBlock = v.ownBlock ∨ v'.ownBlock = some N) (hn : v.ownBlock ≠ some P) (hP : P ≠ N) : v'.ownBlock ≠ some P := fun e => by
  rcases h with h | h
  · exact hn (h ▸ e)
  · rw [h] at e; exact hP (Option.some.inj e).symm

def lenV : Value → Nat
  | .slice _ n _ => n
  | _ => 0
set_option maxHeartbeats 16000000 in
theorem merged_is (a0 b0 : Option Addr) (ca cb : Nat) (a b : List Pt) (w : World) (hA : Lst w w.heap.size a0 ca a) (hB : Lst w w.heap.size b0 cb b) (la : a.length ≤ 200000) (lb : b.length ≤ 200000) : Calls Try.prog 65 #[.slice a0 a.length ca, .slice b0 b.length cb] w (OwnDone (mg a b) w) := by
  obtain ⟨i0, hi, hz0, hz1, hz2⟩ := info_parts infoP
  obtain ⟨n, hn⟩ : ∃ n, a.length + b.length = n := ⟨_, rfl⟩
  have hni : (a.length : Int) + (b.length : Int) = (n : Int) := by omega
  have hwn : IntKind.i64.wrap (n : Int) = (n : Int) := by rw [IntKind.wrap_i64]; omega
  obtain ⟨row, hrow⟩ : ∃ row, madeCells (Value.agg #[.string ⟨#[]⟩, .int .i64 0, .int .i64 0, .int .i64 0, .int .i64 0, .int .i64 0]).cells (((n : Nat) : Int).toNat * i0.size) = row := ⟨_, rfl⟩
  have hrs : row.size = n * 6 := by rw [← hrow, size_madeCells, hz1]; simp
  have hmake : ∀ W : World, (Instr.makeSlice PTT (.int .i64 0) (.int .i64 (n : Int))).run Try.prog W = .ok (.slice (some ⟨W.heap.size, 0, none⟩) 0 n) (W.alloc (.cells row 55)) := fun W => by
    have h := run_make (P := Try.prog) W PTT 55 i0 (.agg #[.string ⟨#[]⟩, .int .i64 0, .int .i64 0, .int .i64 0, .int .i64 0, .int .i64 0]) Try.underlying35 hi hz0 .i64 .i64 0 (n : Int) (by omega) (by omega) (by rw [hz2]; omega) (by omega)
    rw [hrow] at h
    simpa using h
  have HROW0 := Lib.hid (show PRow (w.alloc (.cells row 55)) w.heap.size (.slice (some ⟨w.heap.size, 0, none⟩) 0 n) [] from World.ownsRow_made w row n (Nat.le_refl _) (by unfold maxLen; omega) hrs)
  have HA := Lib.hid hA
  have HB := Lib.hid hB
  clear hrow hi hA hB hrs hz0 hz1 hz2
  clear i0
  go_enter Try.func65, Try.ntmps65
  go_wp2
  go_step3
  go_wp2
  go_step3
  go_wp2
  go_loopw [1, 5, 17] (fun s1 s5 s17 wr => ∃ (k m r cb' c5 : Nat) (pb a5 : Option Addr) (bb xs : List Pt), k ≤ a.length ∧ s17 = .int .i64 (k : Int) ∧ s1 = .slice pb m cb' ∧ s5 = .slice a5 r c5 ∧ Hid (MJ w wr a b k bb xs pb cb' m r (.slice a5 r c5))) (fun _ _ x _ => a.length - (intOf x).toNat)
  case atStart => exact ⟨0, b.length, 0, cb, n, b0, _, b, [], by omega, rfl, rfl, rfl, Lib.hid ⟨HB.out, HROW0.out, rfl, rfl, by omega, by simp, (Below.refl _ _).alloc (Nat.le_refl _) _⟩⟩
  case round =>
    obtain ⟨k, m, r, cb', c5, pb, a5, bb, xs, hk, rfl, rfl, rfl, HJ⟩ := hrel
    clear HROW0 hmake
    obtain ⟨w3, hw3⟩ : ∃ x, x = wr := ⟨_, rfl⟩
    subst hw3
    by_cases hlt : k < a.length
    · have hlti : (k : Int) < (a.length : Int) := by omega
      rcases HA.out.pts.at_ with rfl | ⟨ba, oa, rfl, hbw, hc⟩
      · simp at hlt
      · have hX := (hc k hlt).below HJ.out.bel hbw
        have hdrop := List.drop_eq_getElem_cons hlt
        obtain ⟨p, hp⟩ : ∃ p, a[k] = p := ⟨_, rfl⟩
        obtain ⟨ip, hip⟩ : ∃ ip, oa + k * 6 = ip := ⟨_, rfl⟩
        rw [hp, hip] at hX
        rw [hp] at hdrop
        have HD := Lib.hid hdrop
        have HP0 := Lib.hid (PtAt.new w3 p)
        have HN0 := Lib.hid (HJ.out.row.lt (Nat.le_refl _))
        have HJ0 := Lib.hid (HJ.out.later ((Below.refl _ _).alloc (Nat.le_refl _) (.cells #[.string p.s, .int .i64 p.t, .int .i64 p.v, .int .i64 p.st.c, .int .i64 p.st.s, .int .i64 p.st.q] 55)))
        obtain ⟨x0, x1, x2, x3, x4, x5⟩ := hX
        clear hc hp hdrop HJ
        go_wp2
        clear x0 x1 x2 x3 x4 x5
        obtain ⟨P, hP⟩ : ∃ P, w3.heap.size = P := ⟨_, rfl⟩
        rw [hP] at HP0 HN0
        simp only [hP]
        go_loopw [1, 5] (fun s1 s5 wr => ∃ (m r cb' c5 : Nat) (pb a5 : Option Addr) (bb xs : List Pt), s1 = .slice pb m cb' ∧ s5 = .slice a5 r c5 ∧ Hid (PJ w a b k bb xs pb cb' m r (.slice a5 r c5) P p wr)) (fun x _ _ => lenV x)
        case atStart => exact ⟨m, r, cb', c5, pb, a5, bb, xs, rfl, rfl, Lib.hid ⟨HJ0.out, HP0.out, HN0.out⟩⟩
        case round =>
          obtain ⟨m, r, cb', c5, pb, a5, bb, xs, rfl, rfl, HH⟩ := hrel
          clear HJ0 HP0 HN0
          obtain ⟨w4, hw4⟩ : ∃ x, x = wr := ⟨_, rfl⟩
          subst hw4
          have hlenr := HH.out.j.len
          have hbbm := HH.out.j.hm
          cases bb with
          | nil =>
            obtain rfl : m = 0 := by simpa using hbbm.symm
            clear hbbm
            go_wp2_with fail
            refine wp_region_held_drew (S := (PJ w a b k [] xs pb cb' 0 r (.slice a5 r c5) P p)) (by kernel_rfl) HH.out.drew (fun hHeld => ?_)
            refine wpAnyH_take (i := 0) (oi := ?ma1o) (v := ?ma1v) ?ma1h (by kernel_rfl) (by kernel_rfl) (by kernel_rfl) ?ma1q ?ma1y hHeld ?ma1r
            case ma1h => (simp only [List.getElem?_toArray, List.getElem?_cons_zero]; rfl)
            case ma1q => exact fun _ _ _ h => h
            case ma1y => (refine Or.inl ⟨by first | kernel_rfl | rfl, ?_⟩; intro w hSw; (try dsimp only at hSw); go_simp <;> (try with_reducible rfl))
            try simp only [Act.put, List.setIfInBounds_toArray, List.set_cons_zero, List.set_cons_succ]
            refine wpAnyH_take (i := 1) (oi := ?ma2o) (v := ?ma2v) ?ma2h (by kernel_rfl) (by kernel_rfl) (by kernel_rfl) ?ma2q ?ma2y hHeld ?ma2r
            case ma2h => (simp only [List.getElem?_toArray, List.getElem?_cons_succ, List.getElem?_cons_zero]; rfl)
            case ma2q => exact fun _ _ _ h => h
            case ma2y => (refine Or.inl ⟨by first | kernel_rfl | rfl, ?_⟩; intro w hSw; (try dsimp only at hSw); go_simp <;> (try with_reducible rfl))
            try simp only [Act.put, List.setIfInBounds_toArray, List.set_cons_zero, List.set_cons_succ]
            refine wpAnyH_take (i := 2) (oi := ?ma3o) (v := ?ma3v) ?ma3h (by kernel_rfl) (by kernel_rfl) (by kernel_rfl) ?ma3q ?ma3y hHeld ?ma3r
            case ma3h => (simp only [List.getElem?_toArray, List.getElem?_cons_succ, List.getElem?_cons_zero]; rfl)
            case ma3q => exact fun _ _ _ h => h
            case ma3y => (refine Or.inl ⟨by first | kernel_rfl | rfl, ?_⟩; intro w hSw; (try dsimp only at hSw); go_simp <;> (try with_reducible rfl))
            try simp only [Act.put, List.setIfInBounds_toArray, List.set_cons_zero, List.set_cons_succ]
            refine wpAnyH_take (i := 3) (oi := ?ma4o) (v := ?ma4v) ?ma4h (by kernel_rfl) (by kernel_rfl) (by kernel_rfl) ?ma4q ?ma4y hHeld ?ma4r
            case ma4h => (simp only [List.getElem?_toArray, List.getElem?_cons_succ, List.getElem?_cons_zero]; rfl)
            case ma4q => exact fun _ _ _ h => h
            case ma4y => (refine Or.inl ⟨by first | kernel_rfl | rfl, ?_⟩; intro w hSw; (try dsimp only at hSw); go_simp <;> (try with_reducible rfl))
            try simp only [Act.put, List.setIfInBounds_toArray, List.set_cons_zero, List.set_cons_succ]
            refine wpAnyH_take (i := 4) (oi := ?ma5o) (v := undef) ?ma5h (by kernel_rfl) (by kernel_rfl) (by kernel_rfl) ?ma5q ?ma5y hHeld ?ma5r
            case ma5h => (simp only [List.getElem?_toArray, List.getElem?_cons_succ, List.getElem?_cons_zero]; rfl)
            case ma5q => exact fun _ _ _ h => h
            case ma5y => exact Or.inr ⟨by first | kernel_rfl | rfl, rfl⟩
            try simp only [Act.put, List.setIfInBounds_toArray, List.set_cons_zero, List.set_cons_succ]
            refine wpAnyH_take (i := 5) (oi := ?ma6o) (v := undef) ?ma6h (by kernel_rfl) (by kernel_rfl) (by kernel_rfl) ?ma6q ?ma6y hHeld ?ma6r
            case ma6h => (simp only [List.getElem?_toArray, List.getElem?_cons_succ, List.getElem?_cons_zero]; rfl)
            case ma6q => exact fun _ _ _ h => h
            case ma6y => exact Or.inr ⟨by first | kernel_rfl | rfl, rfl⟩
            try simp only [Act.put, List.setIfInBounds_toArray, List.set_cons_zero, List.set_cons_succ]
            refine wpAnyH_take (i := 6) (oi := ?ma7o) (v := undef) ?ma7h (by kernel_rfl) (by kernel_rfl) (by kernel_rfl) ?ma7q ?ma7y hHeld ?ma7r
            case ma7h => (simp only [List.getElem?_toArray, List.getElem?_cons_succ, List.getElem?_cons_zero]; rfl)
            case ma7q => exact fun _ _ _ h => h
            case ma7y => exact Or.inr ⟨by first | kernel_rfl | rfl, rfl⟩
            try simp only [Act.put, List.setIfInBounds_toArray, List.set_cons_zero, List.set_cons_succ]
            refine wpAnyH_take (i := 7) (oi := ?ma8o) (v := undef) ?ma8h (by kernel_rfl) (by kernel_rfl) (by kernel_rfl) ?ma8q ?ma8y hHeld ?ma8r
            case ma8h => (simp only [List.getElem?_toArray, List.getElem?_cons_succ, List.getElem?_cons_zero]; rfl)
            case ma8q => exact fun _ _ _ h => h
            case ma8y => exact Or.inr ⟨by first | kernel_rfl | rfl, rfl⟩
            try simp only [Act.put, List.setIfInBounds_toArray, List.set_cons_zero, List.set_cons_succ]
            refine wpAnyH_take (i := 8) (oi := ?ma9o) (v := undef) ?ma9h (by kernel_rfl) (by kernel_rfl) (by kernel_rfl) ?ma9q ?ma9y hHeld ?ma9r
            case ma9h => (simp only [List.getElem?_toArray, List.getElem?_cons_succ, List.getElem?_cons_zero]; rfl)
            case ma9q => exact fun _ _ _ h => h
            case ma9y => exact Or.inr ⟨by first | kernel_rfl | rfl, rfl⟩
            try simp only [Act.put, List.setIfInBounds_toArray, List.set_cons_zero, List.set_cons_succ]
            refine wpAnyH_take (i := 9) (oi := ?ma10o) (v := undef) ?ma10h (by kernel_rfl) (by kernel_rfl) (by kernel_rfl) ?ma10q ?ma10y hHeld ?ma10r
            case ma10h => (simp only [List.getElem?_toArray, List.getElem?_cons_succ, List.getElem?_cons_zero]; rfl)
            case ma10q => exact fun _ _ _ h => h
            case ma10y => exact Or.inr ⟨by first | kernel_rfl | rfl, rfl⟩
            try simp only [Act.put, List.setIfInBounds_toArray, List.set_cons_zero, List.set_cons_succ]
            refine wpAnyH_take (i := 10) (oi := ?ma11o) (v := ?ma11v) ?ma11h (by kernel_rfl) (by kernel_rfl) (by kernel_rfl) ?ma11q ?ma11y hHeld ?ma11r
            case ma11h => (simp only [List.getElem?_toArray, List.getElem?_cons_succ, List.getElem?_cons_zero]; rfl)
            case ma11q => exact fun _ _ _ h => h
            case ma11y => (refine Or.inl ⟨by first | kernel_rfl | rfl, ?_⟩; intro w hSw; (try dsimp only at hSw); go_simp <;> (try with_reducible rfl))
            try simp only [Act.put, List.setIfInBounds_toArray, List.set_cons_zero, List.set_cons_succ]
            refine wpAnyH_done (by kernel_rfl) ?_ _
            have HH2 := Lib.hid hHeld
            have hX := hHeld.x
            obtain ⟨x0, x1, x2, x3, x4, x5⟩ := hX
            clear hHeld
            go_wp2_with (at_builtin; refine wpList_appP (w := w4.drew) rfl _ _ rfl w.heap.size r (.slice a5 r c5) xs p (w4.drew).heap.size rfl rfl rfl (Lib.hid HH2.out.j.hr) HH2.out.j.row (by omega) HH2.out.j.bel.size ?_; intro a6 c6 w6 hrow6 hg6 hb6 hat6; have HR6 := Lib.hid hrow6.out; have HB6 := Lib.hid hb6; have HX6 := Lib.hid (HH2.out.x.grown hg6 HH2.out.ne); have HN6 := Lib.hid (ne_grown (P := P) hat6 HH2.out.ne (by have := HH2.out.x.room; omega)); clear hrow6 hb6 hg6 hat6)
            clear x0 x1 x2 x3 x4 x5
            go_roundw
            case rel => exact ⟨k + 1, 0, r + 1, cb', c6, pb, a6, [], xs ++ [p], by omega, by go_num, rfl, rfl, Lib.hid (HH2.out.j.step HR6.out HB6.out HH2.out.j.lst HH2.out.j.hm (by omega) (by rw [HD.out]; exact (mg_nil' _).trans (by rw [mg_nil'])))⟩
            case measure => simp [intOf]; omega
          | cons q bt =>
            obtain ⟨bq, oq, rfl, hbq, hq0⟩ := HH.out.j.lst.some_
            obtain ⟨m1, rfl⟩ : ∃ m1, m = m1 + 1 := ⟨bt.length, by rw [← hbbm]; rfl⟩
            have hbt : bt.length = m1 := by simpa using hbbm
            have HQ0 := Lib.hid hq0
            have HBQ := Lib.hid hbq
            have HBT := Lib.hid hbt
            have hcap := HH.out.j.lst.cap
            have hcap2 : m1 + 1 ≤ cb' := by rw [← hbbm]; exact hcap
            have HL1 := Lib.hid (show Lst w w.heap.size (cutP (some ⟨bq, oq, none⟩) 1 cb') (cb' - 1) bt from HH.out.j.lst.from_ (lo := 1) (by simp))
            have kcut := fun w => at_from (some ⟨bq, oq, none⟩) (m1 + 1) cb' 1 1 rfl (by omega) w
            have kcut2 := fun w => cut_from (some ⟨bq, oq, none⟩) (m1 + 1) cb' 1 1 rfl (by omega) w
            obtain ⟨pt, hpt⟩ : ∃ pt, cutP (some ⟨bq, oq, none⟩) 1 cb' = pt := ⟨_, rfl⟩
            obtain ⟨c1, hc1⟩ : ∃ c1, cb' - 1 = c1 := ⟨_, rfl⟩
            rw [hpt, hc1] at HL1 kcut kcut2
            simp only [Nat.add_sub_cancel] at kcut kcut2
            have hmi : (0 : Int) < ((m1 + 1 : Nat) : Int) := by omega
            obtain ⟨z, hz⟩ : ∃ z, p.before q = z := ⟨_, rfl⟩
            have kb := fun w => before_is p q z w (Lib.hid hz)
            unfold ptV at kb
            clear hcap hbbm hbt hq0 hbq hpt hc1
            cases z with
            | true =>
              go_wp2_with fail
              refine wp_region_held_drew (S := (PJ w a b k (q :: bt) xs (some ⟨bq, oq, none⟩) cb' (m1 + 1) r (.slice a5 r c5) P p)) (by kernel_rfl) HH.out.drew (fun hHeld => ?_)
              refine wpAnyH_take (i := 0) (oi := ?mb1o) (v := ?mb1v) ?mb1h (by kernel_rfl) (by kernel_rfl) (by kernel_rfl) ?mb1q ?mb1y hHeld ?mb1r
              case mb1h => (simp only [List.getElem?_toArray, List.getElem?_cons_zero]; rfl)
              case mb1q => exact fun _ _ _ h => h
              case mb1y => (refine Or.inl ⟨by first | kernel_rfl | rfl, ?_⟩; intro w hSw; (try dsimp only at hSw); have hY := HQ0.out.below hSw.j.bel HBQ.out; obtain ⟨c0, c1, c2, c3, c4, c5⟩ := hSw.x; obtain ⟨d0, d1, d2, d3, d4, d5⟩ := hY; go_simp <;> (try with_reducible rfl))
              try simp only [Act.put, List.setIfInBounds_toArray, List.set_cons_zero, List.set_cons_succ]
              refine wpAnyH_take (i := 1) (oi := ?mb2o) (v := ?mb2v) ?mb2h (by kernel_rfl) (by kernel_rfl) (by kernel_rfl) ?mb2q ?mb2y hHeld ?mb2r
              case mb2h => (simp only [List.getElem?_toArray, List.getElem?_cons_succ, List.getElem?_cons_zero]; rfl)
              case mb2q => exact fun _ _ _ h => h
              case mb2y => (refine Or.inl ⟨by first | kernel_rfl | rfl, ?_⟩; intro w hSw; (try dsimp only at hSw); have hY := HQ0.out.below hSw.j.bel HBQ.out; obtain ⟨c0, c1, c2, c3, c4, c5⟩ := hSw.x; obtain ⟨d0, d1, d2, d3, d4, d5⟩ := hY; go_simp <;> (try with_reducible rfl))
              try simp only [Act.put, List.setIfInBounds_toArray, List.set_cons_zero, List.set_cons_succ]
              refine wpAnyH_take (i := 2) (oi := ?mb3o) (v := ?mb3v) ?mb3h (by kernel_rfl) (by kernel_rfl) (by kernel_rfl) ?mb3q ?mb3y hHeld ?mb3r
              case mb3h => (simp only [List.getElem?_toArray, List.getElem?_cons_succ, List.getElem?_cons_zero]; rfl)
              case mb3q => exact fun _ _ _ h => h
              case mb3y => (refine Or.inl ⟨by first | kernel_rfl | rfl, ?_⟩; intro w hSw; (try dsimp only at hSw); have hY := HQ0.out.below hSw.j.bel HBQ.out; obtain ⟨c0, c1, c2, c3, c4, c5⟩ := hSw.x; obtain ⟨d0, d1, d2, d3, d4, d5⟩ := hY; go_simp <;> (try with_reducible rfl))
              try simp only [Act.put, List.setIfInBounds_toArray, List.set_cons_zero, List.set_cons_succ]
              refine wpAnyH_take (i := 3) (oi := ?mb4o) (v := ?mb4v) ?mb4h (by kernel_rfl) (by kernel_rfl) (by kernel_rfl) ?mb4q ?mb4y hHeld ?mb4r
              case mb4h => (simp only [List.getElem?_toArray, List.getElem?_cons_succ, List.getElem?_cons_zero]; rfl)
              case mb4q => exact fun _ _ _ h => h
              case mb4y => (refine Or.inl ⟨by first | kernel_rfl | rfl, ?_⟩; intro w hSw; (try dsimp only at hSw); have hY := HQ0.out.below hSw.j.bel HBQ.out; obtain ⟨c0, c1, c2, c3, c4, c5⟩ := hSw.x; obtain ⟨d0, d1, d2, d3, d4, d5⟩ := hY; go_simp <;> (try with_reducible rfl))
              try simp only [Act.put, List.setIfInBounds_toArray, List.set_cons_zero, List.set_cons_succ]
              refine wpAnyH_take (i := 4) (oi := ?mb5o) (v := ?mb5v) ?mb5h (by kernel_rfl) (by kernel_rfl) (by kernel_rfl) ?mb5q ?mb5y hHeld ?mb5r
              case mb5h => (simp only [List.getElem?_toArray, List.getElem?_cons_succ, List.getElem?_cons_zero]; rfl)
              case mb5q => exact fun _ _ _ h => h
              case mb5y => (refine Or.inl ⟨by first | kernel_rfl | rfl, ?_⟩; intro w hSw; (try dsimp only at hSw); have hY := HQ0.out.below hSw.j.bel HBQ.out; obtain ⟨c0, c1, c2, c3, c4, c5⟩ := hSw.x; obtain ⟨d0, d1, d2, d3, d4, d5⟩ := hY; go_simp <;> (try with_reducible rfl))
              try simp only [Act.put, List.setIfInBounds_toArray, List.set_cons_zero, List.set_cons_succ]
              refine wpAnyH_take (i := 5) (oi := ?mb6o) (v := ?mb6v) ?mb6h (by kernel_rfl) (by kernel_rfl) (by kernel_rfl) ?mb6q ?mb6y hHeld ?mb6r
              case mb6h => (simp only [List.getElem?_toArray, List.getElem?_cons_succ, List.getElem?_cons_zero]; rfl)
              case mb6q => exact fun _ _ _ h => h
              case mb6y => (refine Or.inl ⟨by first | kernel_rfl | rfl, ?_⟩; intro w hSw; (try dsimp only at hSw); have hY := HQ0.out.below hSw.j.bel HBQ.out; obtain ⟨c0, c1, c2, c3, c4, c5⟩ := hSw.x; obtain ⟨d0, d1, d2, d3, d4, d5⟩ := hY; go_simp <;> (try with_reducible rfl))
              try simp only [Act.put, List.setIfInBounds_toArray, List.set_cons_zero, List.set_cons_succ]
              refine wpAnyH_take (i := 6) (oi := ?mb7o) (v := ?mb7v) ?mb7h (by kernel_rfl) (by kernel_rfl) (by kernel_rfl) ?mb7q ?mb7y hHeld ?mb7r
              case mb7h => (simp only [List.getElem?_toArray, List.getElem?_cons_succ, List.getElem?_cons_zero]; rfl)
              case mb7q => exact fun _ _ _ h => h
              case mb7y => (refine Or.inl ⟨by first | kernel_rfl | rfl, ?_⟩; intro w hSw; (try dsimp only at hSw); have hY := HQ0.out.below hSw.j.bel HBQ.out; obtain ⟨c0, c1, c2, c3, c4, c5⟩ := hSw.x; obtain ⟨d0, d1, d2, d3, d4, d5⟩ := hY; go_simp <;> (try with_reducible rfl))
              try simp only [Act.put, List.setIfInBounds_toArray, List.set_cons_zero, List.set_cons_succ]
              refine wpAnyH_take (i := 7) (oi := ?mb8o) (v := ?mb8v) ?mb8h (by kernel_rfl) (by kernel_rfl) (by kernel_rfl) ?mb8q ?mb8y hHeld ?mb8r
              case mb8h => (simp only [List.getElem?_toArray, List.getElem?_cons_succ, List.getElem?_cons_zero]; rfl)
              case mb8q => exact fun _ _ _ h => h
              case mb8y => (refine Or.inl ⟨by first | kernel_rfl | rfl, ?_⟩; intro w hSw; (try dsimp only at hSw); have hY := HQ0.out.below hSw.j.bel HBQ.out; obtain ⟨c0, c1, c2, c3, c4, c5⟩ := hSw.x; obtain ⟨d0, d1, d2, d3, d4, d5⟩ := hY; go_simp <;> (try with_reducible rfl))
              try simp only [Act.put, List.setIfInBounds_toArray, List.set_cons_zero, List.set_cons_succ]
              refine wpAnyH_ready (rs := [8]) (by kernel_rfl) (by simp) ?_
              refine (AllReadyH.cons rfl (fun K hK => ?_) AllReadyH.nil)
              go_simp
              ((with_reducible refine (kb _).mono ?_); rintro e w2 ⟨rfl, hb2⟩)
              refine hK.out _ _ (hHeld.keep hb2) (fun hHeld => ?_)
              clear hK K
              try simp only [Act.put, List.setIfInBounds_toArray, List.set_cons_zero, List.set_cons_succ]
              refine wpAnyH_take (i := 9) (oi := ?mb9o) (v := ?mb9v) ?mb9h (by kernel_rfl) (by kernel_rfl) (by kernel_rfl) ?mb9q ?mb9y hHeld ?mb9r
              case mb9h => (simp only [List.getElem?_toArray, List.getElem?_cons_succ, List.getElem?_cons_zero]; rfl)
              case mb9q => exact fun _ _ _ h => h
              case mb9y => (refine Or.inl ⟨by first | kernel_rfl | rfl, ?_⟩; intro w hSw; (try dsimp only at hSw); have hY := HQ0.out.below hSw.j.bel HBQ.out; obtain ⟨c0, c1, c2, c3, c4, c5⟩ := hSw.x; obtain ⟨d0, d1, d2, d3, d4, d5⟩ := hY; go_simp <;> (try with_reducible rfl))
              try simp only [Act.put, List.setIfInBounds_toArray, List.set_cons_zero, List.set_cons_succ]
              refine wpAnyH_take (i := 10) (oi := ?mb10o) (v := ?mb10v) ?mb10h (by kernel_rfl) (by kernel_rfl) (by kernel_rfl) ?mb10q ?mb10y hHeld ?mb10r
              case mb10h => (simp only [List.getElem?_toArray, List.getElem?_cons_succ, List.getElem?_cons_zero]; rfl)
              case mb10q => exact fun _ _ _ h => h
              case mb10y => (refine Or.inl ⟨by first | kernel_rfl | rfl, ?_⟩; intro w hSw; (try dsimp only at hSw); have hY := HQ0.out.below hSw.j.bel HBQ.out; obtain ⟨c0, c1, c2, c3, c4, c5⟩ := hSw.x; obtain ⟨d0, d1, d2, d3, d4, d5⟩ := hY; go_simp <;> (try with_reducible rfl))
              try simp only [Act.put, List.setIfInBounds_toArray, List.set_cons_zero, List.set_cons_succ]
              refine wpAnyH_done (by kernel_rfl) ?_ _
              have HH2 := Lib.hid hHeld
              have hX := hHeld.x
              obtain ⟨x0, x1, x2, x3, x4, x5⟩ := hX
              clear hHeld
              go_wp2_with (at_builtin; refine wpList_appP (w := w2) rfl _ _ rfl w.heap.size r (.slice a5 r c5) xs p (w2).heap.size rfl rfl rfl (Lib.hid HH2.out.j.hr) HH2.out.j.row (by omega) HH2.out.j.bel.size ?_; intro a6 c6 w6 hrow6 hg6 hb6 hat6; have HR6 := Lib.hid hrow6.out; have HB6 := Lib.hid hb6; have HX6 := Lib.hid (HH2.out.x.grown hg6 HH2.out.ne); have HN6 := Lib.hid (ne_grown (P := P) hat6 HH2.out.ne (by have := HH2.out.x.room; omega)); clear hrow6 hb6 hg6 hat6)
              clear x0 x1 x2 x3 x4 x5
              go_roundw
              case rel => exact ⟨k + 1, m1 + 1, r + 1, cb', c6, some ⟨bq, oq, none⟩, a6, q :: bt, xs ++ [p], by omega, by go_num, rfl, rfl, Lib.hid (HH2.out.j.step HR6.out HB6.out HH2.out.j.lst HH2.out.j.hm (by omega) (by rw [HD.out]; exact mg_lt _ _ hz))⟩
              case measure => simp [intOf]; omega
            | false =>
              go_wp2_with fail
              refine wp_region_held_drew (S := (PJ w a b k (q :: bt) xs (some ⟨bq, oq, none⟩) cb' (m1 + 1) r (.slice a5 r c5) P p)) (by kernel_rfl) HH.out.drew (fun hHeld => ?_)
              refine wpAnyH_take (i := 0) (oi := ?mc1o) (v := ?mc1v) ?mc1h (by kernel_rfl) (by kernel_rfl) (by kernel_rfl) ?mc1q ?mc1y hHeld ?mc1r
              case mc1h => (simp only [List.getElem?_toArray, List.getElem?_cons_zero]; rfl)
              case mc1q => exact fun _ _ _ h => h
              case mc1y => (refine Or.inl ⟨by first | kernel_rfl | rfl, ?_⟩; intro w hSw; (try dsimp only at hSw); have hY := HQ0.out.below hSw.j.bel HBQ.out; obtain ⟨c0, c1, c2, c3, c4, c5⟩ := hSw.x; obtain ⟨d0, d1, d2, d3, d4, d5⟩ := hY; go_simp <;> (try with_reducible rfl))
              try simp only [Act.put, List.setIfInBounds_toArray, List.set_cons_zero, List.set_cons_succ]
              refine wpAnyH_take (i := 1) (oi := ?mc2o) (v := ?mc2v) ?mc2h (by kernel_rfl) (by kernel_rfl) (by kernel_rfl) ?mc2q ?mc2y hHeld ?mc2r
              case mc2h => (simp only [List.getElem?_toArray, List.getElem?_cons_succ, List.getElem?_cons_zero]; rfl)
              case mc2q => exact fun _ _ _ h => h
              case mc2y => (refine Or.inl ⟨by first | kernel_rfl | rfl, ?_⟩; intro w hSw; (try dsimp only at hSw); have hY := HQ0.out.below hSw.j.bel HBQ.out; obtain ⟨c0, c1, c2, c3, c4, c5⟩ := hSw.x; obtain ⟨d0, d1, d2, d3, d4, d5⟩ := hY; go_simp <;> (try with_reducible rfl))
              try simp only [Act.put, List.setIfInBounds_toArray, List.set_cons_zero, List.set_cons_succ]
              refine wpAnyH_take (i := 2) (oi := ?mc3o) (v := ?mc3v) ?mc3h (by kernel_rfl) (by kernel_rfl) (by kernel_rfl) ?mc3q ?mc3y hHeld ?mc3r
              case mc3h => (simp only [List.getElem?_toArray, List.getElem?_cons_succ, List.getElem?_cons_zero]; rfl)
              case mc3q => exact fun _ _ _ h => h
              case mc3y => (refine Or.inl ⟨by first | kernel_rfl | rfl, ?_⟩; intro w hSw; (try dsimp only at hSw); have hY := HQ0.out.below hSw.j.bel HBQ.out; obtain ⟨c0, c1, c2, c3, c4, c5⟩ := hSw.x; obtain ⟨d0, d1, d2, d3, d4, d5⟩ := hY; go_simp <;> (try with_reducible rfl))
              try simp only [Act.put, List.setIfInBounds_toArray, List.set_cons_zero, List.set_cons_succ]
              refine wpAnyH_take (i := 3) (oi := ?mc4o) (v := ?mc4v) ?mc4h (by kernel_rfl) (by kernel_rfl) (by kernel_rfl) ?mc4q ?mc4y hHeld ?mc4r
              case mc4h => (simp only [List.getElem?_toArray, List.getElem?_cons_succ, List.getElem?_cons_zero]; rfl)
              case mc4q => exact fun _ _ _ h => h
              case mc4y => (refine Or.inl ⟨by first | kernel_rfl | rfl, ?_⟩; intro w hSw; (try dsimp only at hSw); have hY := HQ0.out.below hSw.j.bel HBQ.out; obtain ⟨c0, c1, c2, c3, c4, c5⟩ := hSw.x; obtain ⟨d0, d1, d2, d3, d4, d5⟩ := hY; go_simp <;> (try with_reducible rfl))
              try simp only [Act.put, List.setIfInBounds_toArray, List.set_cons_zero, List.set_cons_succ]
              refine wpAnyH_take (i := 4) (oi := ?mc5o) (v := ?mc5v) ?mc5h (by kernel_rfl) (by kernel_rfl) (by kernel_rfl) ?mc5q ?mc5y hHeld ?mc5r
              case mc5h => (simp only [List.getElem?_toArray, List.getElem?_cons_succ, List.getElem?_cons_zero]; rfl)
              case mc5q => exact fun _ _ _ h => h
              case mc5y => (refine Or.inl ⟨by first | kernel_rfl | rfl, ?_⟩; intro w hSw; (try dsimp only at hSw); have hY := HQ0.out.below hSw.j.bel HBQ.out; obtain ⟨c0, c1, c2, c3, c4, c5⟩ := hSw.x; obtain ⟨d0, d1, d2, d3, d4, d5⟩ := hY; go_simp <;> (try with_reducible rfl))
              try simp only [Act.put, List.setIfInBounds_toArray, List.set_cons_zero, List.set_cons_succ]
              refine wpAnyH_take (i := 5) (oi := ?mc6o) (v := ?mc6v) ?mc6h (by kernel_rfl) (by kernel_rfl) (by kernel_rfl) ?mc6q ?mc6y hHeld ?mc6r
              case mc6h => (simp only [List.getElem?_toArray, List.getElem?_cons_succ, List.getElem?_cons_zero]; rfl)
              case mc6q => exact fun _ _ _ h => h
              case mc6y => (refine Or.inl ⟨by first | kernel_rfl | rfl, ?_⟩; intro w hSw; (try dsimp only at hSw); have hY := HQ0.out.below hSw.j.bel HBQ.out; obtain ⟨c0, c1, c2, c3, c4, c5⟩ := hSw.x; obtain ⟨d0, d1, d2, d3, d4, d5⟩ := hY; go_simp <;> (try with_reducible rfl))
              try simp only [Act.put, List.setIfInBounds_toArray, List.set_cons_zero, List.set_cons_succ]
              refine wpAnyH_take (i := 6) (oi := ?mc7o) (v := ?mc7v) ?mc7h (by kernel_rfl) (by kernel_rfl) (by kernel_rfl) ?mc7q ?mc7y hHeld ?mc7r
              case mc7h => (simp only [List.getElem?_toArray, List.getElem?_cons_succ, List.getElem?_cons_zero]; rfl)
              case mc7q => exact fun _ _ _ h => h
              case mc7y => (refine Or.inl ⟨by first | kernel_rfl | rfl, ?_⟩; intro w hSw; (try dsimp only at hSw); have hY := HQ0.out.below hSw.j.bel HBQ.out; obtain ⟨c0, c1, c2, c3, c4, c5⟩ := hSw.x; obtain ⟨d0, d1, d2, d3, d4, d5⟩ := hY; go_simp <;> (try with_reducible rfl))
              try simp only [Act.put, List.setIfInBounds_toArray, List.set_cons_zero, List.set_cons_succ]
              refine wpAnyH_take (i := 7) (oi := ?mc8o) (v := ?mc8v) ?mc8h (by kernel_rfl) (by kernel_rfl) (by kernel_rfl) ?mc8q ?mc8y hHeld ?mc8r
              case mc8h => (simp only [List.getElem?_toArray, List.getElem?_cons_succ, List.getElem?_cons_zero]; rfl)
              case mc8q => exact fun _ _ _ h => h
              case mc8y => (refine Or.inl ⟨by first | kernel_rfl | rfl, ?_⟩; intro w hSw; (try dsimp only at hSw); have hY := HQ0.out.below hSw.j.bel HBQ.out; obtain ⟨c0, c1, c2, c3, c4, c5⟩ := hSw.x; obtain ⟨d0, d1, d2, d3, d4, d5⟩ := hY; go_simp <;> (try with_reducible rfl))
              try simp only [Act.put, List.setIfInBounds_toArray, List.set_cons_zero, List.set_cons_succ]
              refine wpAnyH_ready (rs := [8]) (by kernel_rfl) (by simp) ?_
              refine (AllReadyH.cons rfl (fun K hK => ?_) AllReadyH.nil)
              go_simp
              ((with_reducible refine (kb _).mono ?_); rintro e w2 ⟨rfl, hb2⟩)
              refine hK.out _ _ (hHeld.keep hb2) (fun hHeld => ?_)
              clear hK K
              try simp only [Act.put, List.setIfInBounds_toArray, List.set_cons_zero, List.set_cons_succ]
              refine wpAnyH_take (i := 9) (oi := ?mc9o) (v := ?mc9v) ?mc9h (by kernel_rfl) (by kernel_rfl) (by kernel_rfl) ?mc9q ?mc9y hHeld ?mc9r
              case mc9h => (simp only [List.getElem?_toArray, List.getElem?_cons_succ, List.getElem?_cons_zero]; rfl)
              case mc9q => exact fun _ _ _ h => h
              case mc9y => (refine Or.inl ⟨by first | kernel_rfl | rfl, ?_⟩; intro w hSw; (try dsimp only at hSw); have hY := HQ0.out.below hSw.j.bel HBQ.out; obtain ⟨c0, c1, c2, c3, c4, c5⟩ := hSw.x; obtain ⟨d0, d1, d2, d3, d4, d5⟩ := hY; go_simp <;> (try with_reducible rfl))
              try simp only [Act.put, List.setIfInBounds_toArray, List.set_cons_zero, List.set_cons_succ]
              refine wpAnyH_take (i := 10) (oi := ?mc10o) (v := ?mc10v) ?mc10h (by kernel_rfl) (by kernel_rfl) (by kernel_rfl) ?mc10q ?mc10y hHeld ?mc10r
              case mc10h => (simp only [List.getElem?_toArray, List.getElem?_cons_succ, List.getElem?_cons_zero]; rfl)
              case mc10q => exact fun _ _ _ h => h
              case mc10y => (refine Or.inl ⟨by first | kernel_rfl | rfl, ?_⟩; intro w hSw; (try dsimp only at hSw); have hY := HQ0.out.below hSw.j.bel HBQ.out; obtain ⟨c0, c1, c2, c3, c4, c5⟩ := hSw.x; obtain ⟨d0, d1, d2, d3, d4, d5⟩ := hY; go_simp <;> (try with_reducible rfl))
              try simp only [Act.put, List.setIfInBounds_toArray, List.set_cons_zero, List.set_cons_succ]
              refine wpAnyH_done (by kernel_rfl) ?_ _
              have HH2 := Lib.hid hHeld
              have hX := hHeld.x
              have hY := HQ0.out.below hHeld.j.bel HBQ.out
              obtain ⟨d0, d1, d2, d3, d4, d5⟩ := hY
              have HQ3 := Lib.hid (PtAt.new w2 q)
              have HH3 := Lib.hid (hHeld.keep ((Below.refl _ _).alloc (Nat.le_refl _) (.cells #[.string q.s, .int .i64 q.t, .int .i64 q.v, .int .i64 q.st.c, .int .i64 q.st.s, .int .i64 q.st.q] 55)))
              have hX3 := HH3.out.x
              obtain ⟨x0, x1, x2, x3, x4, x5⟩ := hX3
              have hQ3 := HQ3.out
              obtain ⟨y0, y1, y2, y3, y4, y5⟩ := hQ3
              obtain ⟨z2, hz2⟩ : ∃ z2, q.before p = z2 := ⟨_, rfl⟩
              obtain ⟨z3, hz3⟩ : ∃ z3, q.newer p = z3 := ⟨_, rfl⟩
              have kb2 := fun w => before_is q p z2 w (Lib.hid hz2)
              have kn := fun w => newer_is q p z3 w (Lib.hid hz3)
              unfold ptV at kb2 kn
              clear hHeld hX kb hb2
              cases z2 with
              | true =>
                go_wp2_with (first | (go_at_call 70; (with_reducible refine (kb2 _).mono ?_); rintro e w5 ⟨rfl, hb5⟩; (have HH5 := Lib.hid (HH3.out.keep hb5)); (have HQ5 := Lib.hid (HQ3.out.later hb5)); clear x0 x1 x2 x3 x4 x5 y0 y1 y2 y3 y4 y5; (have hX5 := HH5.out.x); (obtain ⟨x0, x1, x2, x3, x4, x5⟩ := hX5); (have hQ5 := HQ5.out); (obtain ⟨y0, y1, y2, y3, y4, y5⟩ := hQ5); clear hb5) | (at_builtin; refine wpList_appP (w := w5) rfl _ _ rfl w.heap.size r (.slice a5 r c5) xs q (w5).heap.size rfl rfl rfl (Lib.hid HH5.out.j.hr) HH5.out.j.row (by omega) HH5.out.j.bel.size ?_; intro a6 c6 w6 hrow6 hg6 hb6 hat6; have HR6 := Lib.hid hrow6.out; have HB6 := Lib.hid hb6; have HX6 := Lib.hid (HH5.out.x.grown hg6 HH5.out.ne); have HN6 := Lib.hid (ne_grown (P := P) hat6 HH5.out.ne (by have := HH5.out.x.room; omega)); clear hrow6 hb6 hg6 hat6))
                clear x0 x1 x2 x3 x4 x5 y0 y1 y2 y3 y4 y5 d0 d1 d2 d3 d4 d5
                go_roundw
                case rel => exact ⟨m1, r + 1, c1, c6, pt, a6, bt, xs ++ [q], rfl, rfl, Lib.hid ⟨HH5.out.j.step HR6.out HB6.out HL1.out HBT.out (by omega) (by rw [HD.out]; exact (mg_gt _ _ hz hz2)), HX6.out, HN6.out⟩⟩
                case measure => simp [lenV]
              | false =>
                cases z3 with
                | true =>
                  go_wp2_with (first | (go_at_call 70; (with_reducible refine (kb2 _).mono ?_); rintro e w5 ⟨rfl, hb5⟩; (have HH5 := Lib.hid (HH3.out.keep hb5)); (have HQ5 := Lib.hid (HQ3.out.later hb5)); clear x0 x1 x2 x3 x4 x5 y0 y1 y2 y3 y4 y5; (have hX5 := HH5.out.x); (obtain ⟨x0, x1, x2, x3, x4, x5⟩ := hX5); (have hQ5 := HQ5.out); (obtain ⟨y0, y1, y2, y3, y4, y5⟩ := hQ5); clear hb5) | (go_at_call 71; (with_reducible refine (kn _).mono ?_); rintro e w7 ⟨rfl, hb7⟩; (have HH7 := Lib.hid (HH5.out.keep hb7)); (have HQ7 := Lib.hid (HQ5.out.later hb7)); clear x0 x1 x2 x3 x4 x5 y0 y1 y2 y3 y4 y5; (have hX7 := HH7.out.x); (obtain ⟨x0, x1, x2, x3, x4, x5⟩ := hX7); (have hQ7 := HQ7.out); (obtain ⟨y0, y1, y2, y3, y4, y5⟩ := hQ7); clear hb7) | (at_builtin; refine wpList_appP (w := w7) rfl _ _ rfl w.heap.size r (.slice a5 r c5) xs q (w7).heap.size rfl rfl rfl (Lib.hid HH7.out.j.hr) HH7.out.j.row (by omega) HH7.out.j.bel.size ?_; intro a6 c6 w6 hrow6 hg6 hb6 hat6; have HR6 := Lib.hid hrow6.out; have HB6 := Lib.hid hb6; have HX6 := Lib.hid (HH7.out.x.grown hg6 HH7.out.ne); have HN6 := Lib.hid (ne_grown (P := P) hat6 HH7.out.ne (by have := HH7.out.x.room; omega)); clear hrow6 hb6 hg6 hat6))
                  clear x0 x1 x2 x3 x4 x5 y0 y1 y2 y3 y4 y5 d0 d1 d2 d3 d4 d5
                  go_roundw
                  case rel => exact ⟨k + 1, m1, r + 1, c1, c6, pt, a6, bt, xs ++ [q], by omega, by go_num, rfl, rfl, Lib.hid (HH7.out.j.step HR6.out HB6.out HL1.out HBT.out (by omega) (by rw [HD.out]; exact (mg_new _ _ hz hz2 hz3)))⟩
                  case measure => simp [intOf]; omega
                | false =>
                  go_wp2_with (first | (go_at_call 70; (with_reducible refine (kb2 _).mono ?_); rintro e w5 ⟨rfl, hb5⟩; (have HH5 := Lib.hid (HH3.out.keep hb5)); (have HQ5 := Lib.hid (HQ3.out.later hb5)); clear x0 x1 x2 x3 x4 x5 y0 y1 y2 y3 y4 y5; (have hX5 := HH5.out.x); (obtain ⟨x0, x1, x2, x3, x4, x5⟩ := hX5); (have hQ5 := HQ5.out); (obtain ⟨y0, y1, y2, y3, y4, y5⟩ := hQ5); clear hb5) | (go_at_call 71; (with_reducible refine (kn _).mono ?_); rintro e w7 ⟨rfl, hb7⟩; (have HH7 := Lib.hid (HH5.out.keep hb7)); (have HQ7 := Lib.hid (HQ5.out.later hb7)); clear x0 x1 x2 x3 x4 x5 y0 y1 y2 y3 y4 y5; (have hX7 := HH7.out.x); (obtain ⟨x0, x1, x2, x3, x4, x5⟩ := hX7); (have hQ7 := HQ7.out); (obtain ⟨y0, y1, y2, y3, y4, y5⟩ := hQ7); clear hb7) | (at_builtin; refine wpList_appP (w := w7) rfl _ _ rfl w.heap.size r (.slice a5 r c5) xs p (w7).heap.size rfl rfl rfl (Lib.hid HH7.out.j.hr) HH7.out.j.row (by omega) HH7.out.j.bel.size ?_; intro a6 c6 w6 hrow6 hg6 hb6 hat6; have HR6 := Lib.hid hrow6.out; have HB6 := Lib.hid hb6; have HX6 := Lib.hid (HH7.out.x.grown hg6 HH7.out.ne); have HN6 := Lib.hid (ne_grown (P := P) hat6 HH7.out.ne (by have := HH7.out.x.room; omega)); clear hrow6 hb6 hg6 hat6))
                  clear x0 x1 x2 x3 x4 x5 y0 y1 y2 y3 y4 y5 d0 d1 d2 d3 d4 d5
                  go_roundw
                  case rel => exact ⟨k + 1, m1, r + 1, c1, c6, pt, a6, bt, xs ++ [p], by omega, by go_num, rfl, rfl, Lib.hid (HH7.out.j.step HR6.out HB6.out HL1.out HBT.out (by omega) (by rw [HD.out]; exact (mg_old _ _ hz hz2 hz3)))⟩
                  case measure => simp [intOf]; omega
    · have hlti : ¬ (k : Int) < (a.length : Int) := by omega
      have HJ9 := HJ
      have hlenr := HJ.out.len
      go_wp2_with (at_builtin; refine wpList_appN rfl _ _ rfl w.heap.size r _ xs bb pb m cb' w.heap.size rfl rfl HJ9.out.hm (Lib.hid HJ9.out.hr) HJ9.out.row (HJ9.out.lst.below HJ9.out.bel) (by omega) HJ9.out.bel.size ?_; intro a6 c6 w6 hrow6 _ hb6 _; have HR6 := Lib.hid hrow6.out; have HB6 := Lib.hid hb6; clear hrow6 hb6)
      go_ret
      refine ⟨_, rfl, ?_, HJ9.out.bel.trans HB6.out⟩
      have e := HJ9.out.eq
      rw [List.drop_of_length_le (by omega), mg_nil] at e
      rw [e]; exact HR6.out
end Go.Proofs.Ytcjcbbpolhpphaa
