/- What law SampleBack leans on: the program's Read and ReadPoints, the document's SamePoints, Points; two records in their blocks. -/
import Derived.Test.YtjckphmkhikpaaaSampleTv
import Derived.Test.YtjckphmkhikpaaaSampleTakeP
import Derived.Test.YtjckphmkhikpaaaSamplePCheck
import Derived.BigRegion
import Derived.Test.YtjckphmkhikpaaaSamplePts
import Derived.Test.YtjckphmkhikpaaaSampleFew
import Derived.BigQuiet
import Derived.Test.YtjckphmkhikpaaaVintArgs
import Derived.Test.YtjckphmkhikpaaaMarkBel
import Derived.Deep.AppendSrc
import Derived.Deep.Upon
import Derived.Deep.MidRow
import Derived.Lib.AppendStr
import Derived.OwnWalk
import Derived.Laws.IdiomStrings
import Derived.Test.YtjckphmkhikpaaaSamplePBytes
import Derived.Test.YtjckphmkhikpaaaSampleAwake
import Derived.Test.YtjckphmkhikpaaaSampleSmallB
import Derived.Test.YtjckphmkhikpaaaSampleArgs
/- The contracts of the program's list of numbers and of Read's closure. -/
set_option maxRecDepth 20000
namespace Go.Proofs.Ytjckphmkhikpaaa
open Go.RowKit Go.Proofs.Ytjckphmkhikpaaa.Vi Go.Proofs.Ytjckphmkhikpaaa.Mk

/-- What Read's list reads. -/
def tvN (r : ByteArray) (b : Bool) : List Int × ByteArray × Bool :=
  if b = true then ([], ⟨#[]⟩, true) else (outS r (cntS r).toNat, (stp r (cntS r).toNat).1, (stp r (cntS r).toNat).2)
theorem recQ_tvN {S r r' : ByteArray} {q : Rec} {b b' : Bool} {l : List Int} (h : headQ S = (q, r, b)) (ht : tvN r b = (l, r', b')) : recQ S = if endQ r' b' = 0 ∧ Rec.ok { q with d := l } = true then some { q with d := l } else none := by
  unfold tvN at ht
  cases b with
  | true =>
    rw [if_pos rfl] at ht
    simp only [Prod.mk.injEq] at ht
    obtain ⟨rfl, rfl, rfl⟩ := ht
    rw [recQ_bad h, if_neg]
    intro g; exact absurd g.1 (by decide)
  | false =>
    have hc := cntS_bounds r
    have hn : (((cntS r).toNat : Nat) : Int) = cntS r := by omega
    generalize (cntS r).toNat = n at *
    rw [if_neg (by simp)] at ht
    simp only [Prod.mk.injEq] at ht
    obtain ⟨rfl, rfl, rfl⟩ := ht
    by_cases hE : endQ (stp r n).1 (stp r n).2 = 0 ∧ Rec.ok { q with d := outS r n } = true
    · rw [if_pos hE]
      obtain ⟨h1, h2⟩ := hE
      have hp := (Rec.head_parts (Rec.ok_head h2)).2.1
      have hb : (stp r n).2 = false := by
        cases hb : (stp r n).2 with
        | false => rfl
        | true => rw [hb] at h1; simp [endQ] at h1
      rw [hb] at h1
      refine recQ_yes h hn hb hp ?_ h2
      unfold endQ at h1
      rw [if_neg (by simp)] at h1
      split at h1
      · assumption
      · omega
    · rw [if_neg hE]
      refine recQ_no h hn fun g => hE ⟨?_, g.2.2.2⟩
      rw [g.1]
      unfold endQ
      rw [if_neg (by simp), if_pos g.2.2.1]
theorem recQ_kind {S r : ByteArray} {b : Bool} {k : Int} (h : smallQ S false 2 = (k, r, b)) (h1 : k ≠ 1) (h2 : k ≠ 2) : recQ S = none := by
  cases hr : recQ S with
  | none => rfl
  | some q =>
    exfalso
    unfold recQ at hr
    simp only at hr
    split at hr
    · rename_i hh
      have hk : (headQ S).1.k = k := by unfold headQ; rw [h]
      have := Rec.ok_none (r := { (headQ S).1 with d := outS (headQ S).2.1 (cntS (headQ S).2.1).toNat }) (by show (headQ S).1.k ≠ 1; rw [hk]; exact h1) (by show (headQ S).1.k ≠ 2; rw [hk]; exact h2)
      rw [this] at hh; cases hh.2.2.2.2
    · cases hr

set_option maxHeartbeats 1000000 in
theorem rd1_is (d q : Nat) (r r' : ByteArray) (b b' : Bool) (v : Int) (w : World) (hr : r.size ≤ 100000) (H : Hid (smallQ r b 1099511627776 = (v, r', b'))) (h : RA w d r b) (hq : w.cell? ⟨q, 0, none⟩ = some (.func (.func 57) #[.pointer (some ⟨d, 0, none⟩)] #[])) :
    Calls Try.prog 61 #[.pointer (some ⟨q, 0, none⟩)] w (Took d (.int .i64 v) r' b' w) := by
  have k := small_is d r r' b b' v 1099511627776 w (by unfold maxLen; omega) (by omega) H h
  clear h hr
  go_enter Try.func61, Try.ntmps61
  go_wp2_with (first
    | (go_at_call 57; (with_reducible refine k.mono ?_); rintro e w1 ⟨rfl, hR, hB⟩))
  go_ret
  exact ⟨rfl, hR, hB⟩

/-- What list's loop has read. -/
structure LnR (w wr : World) (d : Nat) (r : ByteArray) (o : Value) (k : Nat) : Prop where
  row : IRow wr w.heap.size o (outS r k)
  ra : RA wr d (stp r k).1 (stp r k).2
  bel : But d w wr
theorem LnR.len {w wr : World} {d : Nat} {r : ByteArray} {o : Value} {k : Nat} (R : LnR w wr d r o k) : ∃ a c, o = .slice a k c := by
  have := R.row.slice; rw [outS_len] at this; exact this
/-- What list answers. -/
def LnDone (d : Nat) (l : List Int) (r' : ByteArray) (b' : Bool) (w : World) (e : Ending) (w' : World) : Prop := ∃ v, e = .returned v ∧ But d w w' ∧ Ns w' v l ∧ (∀ q, v.ownBlock = some q → w.heap.size ≤ q) ∧ RA w' d r' b'
set_option maxHeartbeats 8000000 in
theorem listn_good (d q n : Nat) (r : ByteArray) (w : World) (hs : r.size ≤ 100000) (hn : (n : Int) = cntS r) (h : RA w d r false) (hq : w.cell? ⟨q, 0, none⟩ = some (.func (.func 57) #[.pointer (some ⟨d, 0, none⟩)] #[])) (hne : q ≠ d) :
    Calls Try.prog 60 #[.pointer (some ⟨d, 0, none⟩), .int .i64 8, .func (.func 61) #[] #[.pointer (some ⟨q, 0, none⟩)]] w (LnDone d (outS r n) (stp r n).1 (stp r n).2 w) := by
  obtain ⟨i0, hi, hz0, hz1, hz2⟩ := info_parts infoI
  have hc := cntS_bounds r
  have hn1 : n ≤ 8 := by omega
  have k1 := fun w h => small_is d r (stp r 0).1 false (stp r 0).2 (cntS r) 8 w (by unfold maxLen; omega) (by omega) (Lib.hid (stp_zero r)) h
  rw [← hn] at k1
  have hd := h.room
  have hqr := World.block_lt_of_cell? w _ hq
  have HN := Lib.hid hn
  have HQ := Lib.hid hq
  clear hc hn hq
  go_enter Try.func60, Try.ntmps60
  go_wp2_with (first
    | (go_at_call 57; (with_reducible refine (k1 _ h).mono ?_); rintro e w1 ⟨rfl, hA, hB⟩))
  have R0 := Lib.hid (show LnR w w1 d r (.slice none 0 0) 0 from ⟨IRow.nil _ _, hA, hB⟩)
  clear hA hB k1 h
  go_loopw [7, 11] (fun o i wr => ∃ k : Nat, k ≤ n ∧ i = .int .i64 (k : Int) ∧ LnR w wr d r o k) (fun _ i _ => n - (intOf i).toNat)
  case atStart => exact ⟨0, by omega, rfl, R0.out⟩
  case round =>
    obtain ⟨k, hk, rfl, R⟩ := hrel
    obtain ⟨a1, cc1, rfl⟩ := R.len
    clear R0
    by_cases hlt : k < n
    · have hlt2 : (k : Int) < (n : Int) := by omega
      have hqw := (R.bel.cell (p := ⟨q, 0, none⟩) hne hqr).trans HQ.out
      have k2 := rd1_is d q (stp r k).1 (stp r (k + 1)).1 (stp r k).2 (stp r (k + 1)).2 (numS r k) wr (by have := (stp_inv r k).2; omega) (Lib.hid (stp_step (by rw [← HN.out]; exact hlt2))) R.ra hqw
      have hrow := Lib.hid R.row
      have hbel := Lib.hid R.bel
      obtain ⟨x, hx⟩ : ∃ x, numS r k = x := ⟨_, rfl⟩
      rw [hx] at k2
      have HX := Lib.hid hx
      clear R hx hqw
      go_wp2_with (first
        | (go_at_call 61; (with_reducible refine k2.mono ?_); rintro e w2 ⟨rfl, hA2, hB2⟩; have hR := hrow.out.but hB2 hd; have hb2 := hbel.out.trans hB2; have hBr := hb2.size; have hown : ∀ q, (Value.slice a1 k cc1).ownBlock = some q → w.heap.size ≤ q := fun q hq => (World.ownsRow.lt hR q hq).1)
        | (at_builtin; refine wpList_append_own _ rfl _ _ 24 rfl w.heap.size 3 i0 (.int .i64 0) 1 8 Try.underlying24 hi hz0 hz1 hz2 rfl (by decide) _ _ _ rfl (hR.alloc _) ⟨w2.heap.size, 0, none⟩ 1 1 [icell x] rfl rfl ?c1 ?c2 ?c3 ?c4 ?c5 ?_))
      case c1 =>
        intro j u hj
        match j, hj with
        | 0, hj => simp at hj; subst hj; first | (simp [icell]; done) | (simp [icell, Addr.add]; done)
      case c2 => first | rfl | (intro u hu; simp at hu; subst hu; rfl)
      case c3 => rw [outS_len]; unfold maxLen; (try simp); omega
      case c4 => rw [outS_len]; (try simp); omega
      case c5 => (try simp); omega
      intro v' w3 hown3 hgrow _
      have hB3 : Below w.heap.size w2 w3 := ((Below.refl w.heap.size w2).alloc hBr _).grown hgrow (by simp; omega) hown
      have hR3 : IRow w3 w.heap.size v' (outS r (k + 1)) := by
        unfold IRow
        rw [outS_succ, HX.out]
        simp only [List.length_append, List.map_append, List.length_cons, List.length_nil, List.map_cons, List.map_nil]
        exact hown3
      have HR3 := Lib.hid (show LnR w w3 d r v' (k + 1) from ⟨hR3, hA2.farB hB3 hd, hb2.ofB hB3 (Nat.le_refl _)⟩)
      clear hown3 hgrow hR3 hB3 hR hA2 hB2 hb2 hbel hrow hown
      go_wp2
      go_roundw
      case rel => exact ⟨k + 1, by omega, by go_num, HR3.out⟩
      case measure => simp [intOf]; omega
    · obtain rfl : k = n := by omega
      have hlt2 : ¬ (k : Int) < (k : Int) := by omega
      have hNs := R.row.ns (fun m hm => by
        obtain ⟨i, _, rfl⟩ := List.mem_map.1 (show m ∈ (List.range k).map (numS r) from hm)
        have := numS_bounds r i; omega) (by rw [outS_len]; omega)
      have HR := Lib.hid (show LnDone d (outS r k) (stp r k).1 (stp r k).2 w (.returned (.slice a1 k cc1)) wr from ⟨_, rfl, R.bel, hNs, fun q hq => (World.ownsRow.lt R.row q hq).1, R.ra⟩)
      clear R hNs
      go_wp2
      go_ret
      exact HR.out
theorem listn_bad (d q : Nat) (w : World) (h : RA w d ⟨#[]⟩ true) :
    Calls Try.prog 60 #[.pointer (some ⟨d, 0, none⟩), .int .i64 8, .func (.func 61) #[] #[.pointer (some ⟨q, 0, none⟩)]] w (LnDone d [] ⟨#[]⟩ true w) := by
  have k1 := fun w h => small_is d ⟨#[]⟩ ⟨#[]⟩ true true 0 8 w (by decide) (by omega) (Lib.hid rfl) h
  go_enter Try.func60, Try.ntmps60
  go_wp2_with (first
    | (go_at_call 57; (with_reducible refine (k1 _ h).mono ?_); rintro e w1 ⟨rfl, hA, hB⟩))
  go_loopw [7, 11] (fun o i wr => o = .slice none 0 0 ∧ i = .int .i64 0 ∧ w1 = wr) (fun _ _ _ => 0)
  case atStart => exact ⟨rfl, rfl, rfl⟩
  case round =>
    obtain ⟨rfl, rfl, rfl⟩ := hrel
    go_wp2
    go_ret
    exact ⟨_, rfl, hB, (Nums.nil w1 none 0).mono (Nat.zero_le _) (Nat.le_refl _), fun q hq => (by cases hq), hA⟩
theorem listn_is (d q : Nat) (r r' : ByteArray) (b b' : Bool) (l : List Int) (w : World) (hs : r.size ≤ 100000) (H : Hid (tvN r b = (l, r', b'))) (hi : b = true → r = ⟨#[]⟩) (h : RA w d r b) (hq : w.cell? ⟨q, 0, none⟩ = some (.func (.func 57) #[.pointer (some ⟨d, 0, none⟩)] #[])) (hne : q ≠ d) :
    Calls Try.prog 60 #[.pointer (some ⟨d, 0, none⟩), .int .i64 8, .func (.func 61) #[] #[.pointer (some ⟨q, 0, none⟩)]] w (LnDone d l r' b' w) := by
  have H := H.out
  unfold tvN at H
  cases b with
  | true =>
    rw [if_pos rfl] at H
    simp only [Prod.mk.injEq] at H
    obtain ⟨rfl, rfl, rfl⟩ := H
    obtain rfl := hi rfl
    exact listn_bad d q w h
  | false =>
    have hc := cntS_bounds r
    have hn : (((cntS r).toNat : Nat) : Int) = cntS r := by omega
    rw [if_neg (by simp)] at H
    simp only [Prod.mk.injEq] at H
    obtain ⟨rfl, rfl, rfl⟩ := H
    exact listn_good d q _ r w hs hn h hq hne
end Go.Proofs.Ytjckphmkhikpaaa
/- The contract of the program's Read of records. -/
set_option maxRecDepth 20000
namespace Go.Proofs.Ytjckphmkhikpaaa
open Go.RowKit Go.Proofs.Ytjckphmkhikpaaa.Vi Go.Proofs.Ytjckphmkhikpaaa.Mk

/-- Read's world between two parts: the result's block, the reader's, the method's, the record's. -/
structure RdQ (w : World) (r : ByteArray) (br : Bool) (q e : Nat) (x : Rec) (dv : Value) (wr : World) : Prop where
  ra : RA wr (w.heap.size + 1) r br
  out : RecW wr w.heap.size Rec.zero (.slice none 0 0)
  fn : wr.cell? ⟨q, 0, none⟩ = some (.func (.func 57) #[.pointer (some ⟨w.heap.size + 1, 0, none⟩)] #[])
  at_ : RecW wr e x dv
  far : w.heap.size + 2 ≤ q
  qe : q < e
  bel : Below w.heap.size w wr
theorem RdQ.but {w wr w' : World} {r r' : ByteArray} {br br' : Bool} {q e : Nat} {x : Rec} {dv : Value} (h : RdQ w r br q e x dv wr) (k : But (w.heap.size + 1) wr w') (hr : RA w' (w.heap.size + 1) r' br') : RdQ w r' br' q e x dv w' :=
  ⟨hr, h.out.but k (by omega), (k.cell (p := ⟨q, 0, none⟩) (by show q ≠ w.heap.size + 1; have := h.far; omega) (World.block_lt_of_cell? _ _ h.fn)).trans h.fn, h.at_.but k (by have := h.far; have := h.qe; omega), h.far, h.qe, h.bel.trans (k.below (by omega) (by have := h.out.room; omega))⟩
theorem RdQ.below {w wr w' : World} {r : ByteArray} {br : Bool} {q e : Nat} {x : Rec} {dv : Value} (h : RdQ w r br q e x dv wr) (k : Below wr.heap.size wr w') : RdQ w r br q e x dv w' :=
  ⟨h.ra.below k, h.out.below k, (k.cell (p := ⟨q, 0, none⟩) (World.block_lt_of_cell? _ _ h.fn)).trans h.fn, h.at_.below k, h.far, h.qe, bel_next h.bel k⟩
theorem RdQ.drew {w wr : World} {r : ByteArray} {br : Bool} {q e : Nat} {x : Rec} {dv : Value} (h : RdQ w r br q e x dv wr) : RdQ w r br q e x dv wr.drew := h.below ((Below.refl _ _).drew)
theorem RdQ.drewN {w wr : World} {r : ByteArray} {br : Bool} {q e n : Nat} {x : Rec} {dv : Value} (h : RdQ w r br q e x dv wr) : RdQ w r br q e x dv (wr.drewN n) := h.below (below_drewN (Below.refl _ _) n)
theorem RdQ.set1 {w wr : World} {r : ByteArray} {br : Bool} {q e : Nat} {x : Rec} {dv : Value} (h : RdQ w r br q e x dv wr) (z : ByteArray) : RdQ w r br q e { x with s := z } dv (wr.setCell ⟨e, 1, none⟩ (.string z)) := by
  have hf := h.far
  have hq := h.qe
  refine ⟨?_, ?_, ?_, h.at_.set1 z, hf, hq, ?_⟩
  · refine RA.other ?_ _ _ (show e ≠ _ by omega); exact h.ra
  · refine RecW.other ?_ _ _ (show e ≠ _ by omega); exact h.out
  · rw [World.cell?_setCell_far _ _ _ _ (show e ≠ q by omega)]; exact h.fn
  · exact (h.bel.setCell (by show _ ≤ e; omega) _)
theorem RdQ.set2 {w wr : World} {r : ByteArray} {br : Bool} {q e : Nat} {x : Rec} {dv : Value} (h : RdQ w r br q e x dv wr) (z : Int) : RdQ w r br q e { x with t := z } dv (wr.setCell ⟨e, 2, none⟩ (.int .i64 z)) := by
  have hf := h.far
  have hq := h.qe
  refine ⟨?_, ?_, ?_, h.at_.set2 z, hf, hq, ?_⟩
  · refine RA.other ?_ _ _ (show e ≠ _ by omega); exact h.ra
  · refine RecW.other ?_ _ _ (show e ≠ _ by omega); exact h.out
  · rw [World.cell?_setCell_far _ _ _ _ (show e ≠ q by omega)]; exact h.fn
  · exact (h.bel.setCell (by show _ ≤ e; omega) _)
theorem RdQ.set3 {w wr : World} {r : ByteArray} {br : Bool} {q e : Nat} {x : Rec} {dv : Value} (h : RdQ w r br q e x dv wr) (z : Int) : RdQ w r br q e { x with v := z } dv (wr.setCell ⟨e, 3, none⟩ (.int .i64 z)) := by
  have hf := h.far
  have hq := h.qe
  refine ⟨?_, ?_, ?_, h.at_.set3 z, hf, hq, ?_⟩
  · refine RA.other ?_ _ _ (show e ≠ _ by omega); exact h.ra
  · refine RecW.other ?_ _ _ (show e ≠ _ by omega); exact h.out
  · rw [World.cell?_setCell_far _ _ _ _ (show e ≠ q by omega)]; exact h.fn
  · exact (h.bel.setCell (by show _ ≤ e; omega) _)
theorem RdQ.set4 {w wr : World} {r : ByteArray} {br : Bool} {q e : Nat} {x : Rec} {dv : Value} (h : RdQ w r br q e x dv wr) (z : Int) : RdQ w r br q e { x with tier := z } dv (wr.setCell ⟨e, 4, none⟩ (.int .i64 z)) := by
  have hf := h.far
  have hq := h.qe
  refine ⟨?_, ?_, ?_, h.at_.set4 z, hf, hq, ?_⟩
  · refine RA.other ?_ _ _ (show e ≠ _ by omega); exact h.ra
  · refine RecW.other ?_ _ _ (show e ≠ _ by omega); exact h.out
  · rw [World.cell?_setCell_far _ _ _ _ (show e ≠ q by omega)]; exact h.fn
  · exact (h.bel.setCell (by show _ ≤ e; omega) _)
theorem RdQ.set5 {w wr : World} {r : ByteArray} {br : Bool} {q e : Nat} {x : Rec} {dv : Value} (h : RdQ w r br q e x dv wr) (z : St) : RdQ w r br q e { x with st := z } dv (((wr.setCell ⟨e, 5, none⟩ (.int .i64 z.c)).setCell ⟨e, 6, none⟩ (.int .i64 z.s)).setCell ⟨e, 7, none⟩ (.int .i64 z.q)) := by
  have hf := h.far
  have hq := h.qe
  refine ⟨?_, ?_, ?_, h.at_.set5 z, hf, hq, ?_⟩
  · refine RA.other ?_ _ _ (show e ≠ _ by omega); refine RA.other ?_ _ _ (show e ≠ _ by omega); refine RA.other ?_ _ _ (show e ≠ _ by omega); exact h.ra
  · refine RecW.other ?_ _ _ (show e ≠ _ by omega); refine RecW.other ?_ _ _ (show e ≠ _ by omega); refine RecW.other ?_ _ _ (show e ≠ _ by omega); exact h.out
  · rw [World.cell?_setCell_far _ _ _ _ (show e ≠ q by omega), World.cell?_setCell_far _ _ _ _ (show e ≠ q by omega), World.cell?_setCell_far _ _ _ _ (show e ≠ q by omega)]; exact h.fn
  · exact (((h.bel.setCell (by show _ ≤ e; omega) _).setCell (by show _ ≤ e; omega) _).setCell (by show _ ≤ e; omega) _)
theorem RdQ.set8 {w wr : World} {r : ByteArray} {br : Bool} {q e : Nat} {x : Rec} {dv : Value} (h : RdQ w r br q e x dv wr) (l : List Int) (z : Value) : RdQ w r br q e { x with d := l } z (wr.setCell ⟨e, 8, none⟩ z) := by
  have hf := h.far
  have hq := h.qe
  refine ⟨?_, ?_, ?_, h.at_.set8 l z, hf, hq, ?_⟩
  · refine RA.other ?_ _ _ (show e ≠ _ by omega); exact h.ra
  · refine RecW.other ?_ _ _ (show e ≠ _ by omega); exact h.out
  · rw [World.cell?_setCell_far _ _ _ _ (show e ≠ q by omega)]; exact h.fn
  · exact (h.bel.setCell (by show _ ≤ e; omega) _)
theorem RdQ.first {w w1 w2 : World} {S r : ByteArray} {b : Bool} (k : Int) (hA1 : RA w1 (w.heap.size + 1) S false) (hb1 : Below (w.alloc (.cells #[.int .i64 0, .string ⟨#[]⟩, .int .i64 0, .int .i64 0, .int .i64 0, .int .i64 0, .int .i64 0, .int .i64 0, .slice none 0 0] 26)).heap.size (w.alloc (.cells #[.int .i64 0, .string ⟨#[]⟩, .int .i64 0, .int .i64 0, .int .i64 0, .int .i64 0, .int .i64 0, .int .i64 0, .slice none 0 0] 26)) w1) (hB2 : But (w.heap.size + 1) (w1.alloc (.cells #[.func (.func 57) #[.pointer (some ⟨w.heap.size + 1, 0, none⟩)] #[]] 70)) w2) (hR : RA w2 (w.heap.size + 1) r b) : RdQ w r b w1.heap.size w2.heap.size ⟨k, ⟨#[]⟩, 0, 0, 0, ⟨0, 0, 0⟩, []⟩ (.slice none 0 0) (w2.alloc (.cells #[.int .i64 k, .string ⟨#[]⟩, .int .i64 0, .int .i64 0, .int .i64 0, .int .i64 0, .int .i64 0, .int .i64 0, .slice none 0 0] 26)) := by
  have hs1 : w.heap.size + 1 < w1.heap.size := hA1.room
  have hs2 := hB2.size
  have hZ : RecW (w.alloc (.cells #[.int .i64 0, .string ⟨#[]⟩, .int .i64 0, .int .i64 0, .int .i64 0, .int .i64 0, .int .i64 0, .int .i64 0, .slice none 0 0] 26)) w.heap.size Rec.zero (.slice none 0 0) := RecW.new w Rec.zero _
  have hF : (w1.alloc (.cells #[.func (.func 57) #[.pointer (some ⟨w.heap.size + 1, 0, none⟩)] #[]] 70)).cell? ⟨w1.heap.size, 0, none⟩ = some (.func (.func 57) #[.pointer (some ⟨w.heap.size + 1, 0, none⟩)] #[]) := by simp [go_sem]
  have hal := (Below.refl w1.heap.size w1).alloc (Nat.le_refl _) (.cells #[.func (.func 57) #[.pointer (some ⟨w.heap.size + 1, 0, none⟩)] #[]] 70)
  have hN := (Below.refl w2.heap.size w2).alloc (Nat.le_refl _) (.cells #[.int .i64 k, .string ⟨#[]⟩, .int .i64 0, .int .i64 0, .int .i64 0, .int .i64 0, .int .i64 0, .int .i64 0, .slice none 0 0] 26)
  simp only [World.size_alloc] at hs2
  have hbw : Below w.heap.size w w1 := ((Below.refl _ _).alloc (Nat.le_refl _) _).trans (hb1.mono (by simp))
  refine ⟨hR.below hN, (((hZ.below hb1).below hal).but hB2 (by omega)).below hN, ?_, RecW.new w2 ⟨k, ⟨#[]⟩, 0, 0, 0, ⟨0, 0, 0⟩, []⟩ _, by omega, by omega, ?_⟩
  · exact (hN.cell (p := ⟨w1.heap.size, 0, none⟩) (by show w1.heap.size < w2.heap.size; omega)).trans ((hB2.cell (p := ⟨w1.heap.size, 0, none⟩) (by show w1.heap.size ≠ _; omega) (by simp)).trans hF)
  · exact bel_next ((hbw.trans (hal.mono (by omega))).trans (hB2.below (by omega) (by simp; omega))) hN
theorem head_ptR {S r1 r5 : ByteArray} {b1 b5 : Bool} {p : Pt} (h1 : smallQ S false 2 = (1, r1, b1)) (hp : ptR r1 b1 = (p, r5, b5)) : headQ S = (⟨1, p.s, p.t, p.v, 0, p.st, []⟩, r5, b5) := by
  obtain ⟨s, r1', b1', t, r2, b2, v, r3, b3, a, r4, b4, h2, h3, h4, h5, e⟩ := ptR_parts r1 b1
  rw [hp] at e
  simp only [Prod.mk.injEq] at e
  obtain ⟨rfl, rfl, rfl⟩ := e
  exact head_sample h1 rfl h2 h3 h4 h5
theorem ptR_st {r r' : ByteArray} {b b' : Bool} {p : Pt} (H : ptR r b = (p, r', b')) (h : b = true → r = ⟨#[]⟩) : (0 ≤ p.st.s ∧ p.st.s ≤ 7) ∧ (0 ≤ p.t ∧ p.t ≤ 1099511627776) ∧ p.vfit := by
  obtain ⟨s, r1, b1, t, r2, b2, v, r3, b3, a, r4, b4, h1, h2, h3, h4, e⟩ := ptR_parts r b
  rw [e] at H
  simp only [Prod.mk.injEq] at H
  obtain ⟨rfl, rfl, rfl⟩ := H
  obtain ⟨i1, j1, k1⟩ := text_inv6 h1 h
  obtain ⟨i2, -, j2⟩ := smallQ_inv h2 i1
  obtain ⟨i3, j3, v0, v1⟩ := num_inv6 h3 fun e => (i2 e).1
  exact ⟨take_range6 h4 i3, smallQ_range h2 (by omega), zag_bounds v v0 v1⟩

set_option maxHeartbeats 8000000 in
theorem pread6_s_bad (S : ByteArray) (r1 r5 r6 : ByteArray) (b1 b5 b6 : Bool) (p : Pt) (l : List Int) (z : Int) (w : World) (hs : S.size ≤ 100000) (h1 : smallQ S false 2 = (1, r1, b1)) (hp : ptR r1 b1 = (p, r5, b5)) (h6 : tvN r5 b5 = (l, r6, b6)) (hz : endQ r6 b6 = z) (hb : (z != 0) = true) : Calls Try.prog 20 #[.string S] w (Read6Done S w) := by
  have hmf := makeFunc_run
  obtain ⟨i1, -, j1⟩ := smallQ_inv h1 (fun e => by cases e)
  obtain ⟨i5, j5, -⟩ := ptR_inv hp fun e => (i1 e).1
  obtain ⟨hss, ht2, hvf⟩ := ptR_st hp fun e => (i1 e).1
  have hq := recQ_tvN (head_ptR h1 hp) h6
  have hps := (ptR_inv hp fun e => (i1 e).1).2.2
  rw [if_neg (fun g => by rw [hz] at g; rw [g.1] at hb; simp at hb)] at hq
  have kS := fun W h => small_is (w.heap.size + 1) S r1 false b1 1 2 W (by unfold maxLen; omega) (by omega) (Lib.hid h1) h
  have kT := fun W h => takep_is (w.heap.size + 1) r1 r5 b1 b5 p W (by omega) (Lib.hid hp) (fun e => (i1 e).1) h
  have kL := fun W q h hq hne => listn_is (w.heap.size + 1) q r5 r6 b5 b6 l W (by omega) (Lib.hid h6) i5 h hq hne
  have kE := fun W h => end_is (w.heap.size + 1) r6 b6 z W h (Lib.hid hz)
  have hfirst := fun w1 w2 hA1 hb1 hB2 hR => RdQ.first (w := w) (w1 := w1) (w2 := w2) (S := S) (r := r1) (b := b1) 1 hA1 hb1 hB2 hR
  have HQ := Lib.hid hq
  clear hq i1 j1 h1 h6 hz hs i5 j5 hss ht2 hvf hp hps
  unfold ptV at kT
  obtain ⟨ps, pt, pv, pst⟩ := p
  dsimp only at kT HQ
  go_enter Try.func20, Try.ntmps20
  go_wp2_with (first
    | (go_at_call 56; (with_reducible refine (read_is _ _).mono ?_); rintro e w1 ⟨rfl, hA1, hb1, hz1⟩; (have hA1 : RA w1 (w.heap.size + 1) S false := by simpa using hA1); have hA2 := hA1.below ((Below.refl _ _).alloc (Nat.le_refl _) (.cells #[.func (.func 57) #[.pointer (some ⟨w.heap.size + 1, 0, none⟩)] #[]] 70)); (have hfn : (w1.alloc (.cells #[.func (.func 57) #[.pointer (some ⟨w.heap.size + 1, 0, none⟩)] #[]] 70)).cell? ⟨w1.heap.size, 0, none⟩ = some (.func (.func 57) #[.pointer (some ⟨w.heap.size + 1, 0, none⟩)] #[]) := by simp [go_sem]))
    | (go_at_call 57; (with_reducible refine (kS _ hA2).mono ?_); rintro e w2 ⟨rfl, hR2, hB2⟩; have R1 := hfirst w1 w2 hA1 hb1 hB2 hR2; have Hx := R1.at_; obtain ⟨⟨x0, x1, x2, x3, x4, x5, x6, x7, x8⟩, y0, y1, y2, y3, y4, y5, y6, y7, y8⟩ := Hx; dsimp only at x0 x1 x2 x3 x4 x5 x6 x7 x8; have hfn := R1.fn)
    | (go_at_call 58; (with_reducible refine (kT _ R1.ra).mono ?_); rintro e w3 ⟨rfl, hR3, hB3⟩; have R2 := (R1.but hB3 hR3).below ((Below.refl _ _).alloc (Nat.le_refl _) (.cells #[.string ps, .int .i64 pt, .int .i64 pv, .int .i64 pst.c, .int .i64 pst.s, .int .i64 pst.q] 34)); have P2 := PtAt.new w3 ⟨ps, pt, pv, pst⟩; obtain ⟨c0, c1, c2, c3, c4, c5⟩ := P2; dsimp only at c0 c1 c2 c3 c4 c5; (have hne1 : ¬ w3.heap.size = w2.heap.size := by (have := (R1.but hB3 hR3).at_.room; omega)); (have hne2 : ¬ w2.heap.size = w3.heap.size := by (have := (R1.but hB3 hR3).at_.room; omega)); have Hx := R2.at_; obtain ⟨⟨x0, x1, x2, x3, x4, x5, x6, x7, x8⟩, y0, y1, y2, y3, y4, y5, y6, y7, y8⟩ := Hx; dsimp only at x0 x1 x2 x3 x4 x5 x6 x7 x8; have hfn := R2.fn))
  go_region
  have RX := ((((R2.set1 ps).set2 pt).set3 pv).set5 pst).drew
  go_wp2_with (first
    | (go_at_call 60; (with_reducible refine (kL _ _ RX.ra RX.fn (by have := RX.far; omega)).mono ?_); rintro e w6 ⟨dv, rfl, hB6, hN6, hQ6, hR6⟩; obtain ⟨da, dc, rfl⟩ := hN6.slice; have hQ7 := own_up hQ6 (show w2.heap.size + 1 ≤ _ from RX.at_.room); have R6 := RX.but hB6 hR6; have R7 := R6.set8 l (.slice da l.length dc); have N7 := Nums.far hN6 hQ7 ⟨w2.heap.size, 8, none⟩ (.slice da l.length dc) (Nat.lt_succ_self _); have Hx := R6.at_; obtain ⟨⟨x0, x1, x2, x3, x4, x5, x6, x7, x8⟩, y0, y1, y2, y3, y4, y5, y6, y7, y8⟩ := Hx; dsimp only at x0 x1 x2 x3 x4 x5 x6 x7 x8; have hfn := R6.fn; have Ho7 := R7.out; obtain ⟨⟨zx0, zx1, zx2, zx3, zx4, zx5, zx6, zx7, zx8⟩, zy0, zy1, zy2, zy3, zy4, zy5, zy6, zy7, zy8⟩ := Ho7; dsimp only [Rec.zero] at zx0 zx1 zx2 zx3 zx4 zx5 zx6 zx7 zx8)
    | (go_at_call 62; (with_reducible refine (kE _ R7.ra).mono ?_); rintro e w7 ⟨rfl, rfl⟩; have Hx := R7.at_; obtain ⟨⟨x0, x1, x2, x3, x4, x5, x6, x7, x8⟩, y0, y1, y2, y3, y4, y5, y6, y7, y8⟩ := Hx; dsimp only at x0 x1 x2 x3 x4 x5 x6 x7 x8; have hfn := R7.fn))
  refine bodyPost_ret (v := .tuple #[recV Rec.zero (.slice none 0 0), .int .i64 10]) (by unfold recV Rec.zero; simp [results, Try.results20, go_sem, zx0, zx1, zx2, zx3, zx4, zx5, zx6, zx7, zx8]; try rfl) rfl (read6_none HQ.out ?_)
  exact nine_set R7.bel _ (Nat.le_refl _) _ _ _ _ _ _ _ _ _

set_option maxHeartbeats 8000000 in
theorem pread6_s_no (S : ByteArray) (r1 r5 r6 : ByteArray) (b1 b5 b6 : Bool) (p : Pt) (l : List Int) (z : Int) (w : World) (hs : S.size ≤ 100000) (h1 : smallQ S false 2 = (1, r1, b1)) (hp : ptR r1 b1 = (p, r5, b5)) (h6 : tvN r5 b5 = (l, r6, b6)) (hz : endQ r6 b6 = z) (hb : z = 0) (ho : Rec.ok ⟨1, p.s, p.t, p.v, 0, p.st, l⟩ = false) : Calls Try.prog 20 #[.string S] w (Read6Done S w) := by
  have hmf := makeFunc_run
  obtain ⟨i1, -, j1⟩ := smallQ_inv h1 (fun e => by cases e)
  obtain ⟨i5, j5, -⟩ := ptR_inv hp fun e => (i1 e).1
  obtain ⟨hss, ht2, hvf⟩ := ptR_st hp fun e => (i1 e).1
  have hq := recQ_tvN (head_ptR h1 hp) h6
  have hps := (ptR_inv hp fun e => (i1 e).1).2.2
  rw [if_neg (fun g => by have := g.2; rw [show Rec.ok _ = false from ho] at this; cases this)] at hq
  have kS := fun W h => small_is (w.heap.size + 1) S r1 false b1 1 2 W (by unfold maxLen; omega) (by omega) (Lib.hid h1) h
  have kT := fun W h => takep_is (w.heap.size + 1) r1 r5 b1 b5 p W (by omega) (Lib.hid hp) (fun e => (i1 e).1) h
  have kL := fun W q h hq hne => listn_is (w.heap.size + 1) q r5 r6 b5 b6 l W (by omega) (Lib.hid h6) i5 h hq hne
  have kE := fun W h => end_is (w.heap.size + 1) r6 b6 z W h (Lib.hid hz)
  have hfit : Rec.fits ⟨1, p.s, p.t, p.v, 0, p.st, l⟩ := ⟨by simp, by dsimp only; omega, by dsimp only; omega, hvf, by simp, by dsimp only; omega⟩
  have kC := fun dv W h => check6_is ⟨1, p.s, p.t, p.v, 0, p.st, l⟩ dv W h hfit
  have he : Rec.err ⟨1, p.s, p.t, p.v, 0, p.st, l⟩ = 1 := Rec.err_no ho
  rw [he] at kC
  unfold recV at kC
  dsimp only at kC
  have hfirst := fun w1 w2 hA1 hb1 hB2 hR => RdQ.first (w := w) (w1 := w1) (w2 := w2) (S := S) (r := r1) (b := b1) 1 hA1 hb1 hB2 hR
  have HQ := Lib.hid hq
  subst hb
  clear hq i1 j1 h1 h6 hz hs i5 j5 hss ht2 hvf hp hps hfit he ho
  unfold ptV at kT
  obtain ⟨ps, pt, pv, pst⟩ := p
  dsimp only at kT HQ kC
  go_enter Try.func20, Try.ntmps20
  go_wp2_with (first
    | (go_at_call 56; (with_reducible refine (read_is _ _).mono ?_); rintro e w1 ⟨rfl, hA1, hb1, hz1⟩; (have hA1 : RA w1 (w.heap.size + 1) S false := by simpa using hA1); have hA2 := hA1.below ((Below.refl _ _).alloc (Nat.le_refl _) (.cells #[.func (.func 57) #[.pointer (some ⟨w.heap.size + 1, 0, none⟩)] #[]] 70)); (have hfn : (w1.alloc (.cells #[.func (.func 57) #[.pointer (some ⟨w.heap.size + 1, 0, none⟩)] #[]] 70)).cell? ⟨w1.heap.size, 0, none⟩ = some (.func (.func 57) #[.pointer (some ⟨w.heap.size + 1, 0, none⟩)] #[]) := by simp [go_sem]))
    | (go_at_call 57; (with_reducible refine (kS _ hA2).mono ?_); rintro e w2 ⟨rfl, hR2, hB2⟩; have R1 := hfirst w1 w2 hA1 hb1 hB2 hR2; have Hx := R1.at_; obtain ⟨⟨x0, x1, x2, x3, x4, x5, x6, x7, x8⟩, y0, y1, y2, y3, y4, y5, y6, y7, y8⟩ := Hx; dsimp only at x0 x1 x2 x3 x4 x5 x6 x7 x8; have hfn := R1.fn)
    | (go_at_call 58; (with_reducible refine (kT _ R1.ra).mono ?_); rintro e w3 ⟨rfl, hR3, hB3⟩; have R2 := (R1.but hB3 hR3).below ((Below.refl _ _).alloc (Nat.le_refl _) (.cells #[.string ps, .int .i64 pt, .int .i64 pv, .int .i64 pst.c, .int .i64 pst.s, .int .i64 pst.q] 34)); have P2 := PtAt.new w3 ⟨ps, pt, pv, pst⟩; obtain ⟨c0, c1, c2, c3, c4, c5⟩ := P2; dsimp only at c0 c1 c2 c3 c4 c5; (have hne1 : ¬ w3.heap.size = w2.heap.size := by (have := (R1.but hB3 hR3).at_.room; omega)); (have hne2 : ¬ w2.heap.size = w3.heap.size := by (have := (R1.but hB3 hR3).at_.room; omega)); have Hx := R2.at_; obtain ⟨⟨x0, x1, x2, x3, x4, x5, x6, x7, x8⟩, y0, y1, y2, y3, y4, y5, y6, y7, y8⟩ := Hx; dsimp only at x0 x1 x2 x3 x4 x5 x6 x7 x8; have hfn := R2.fn))
  go_region
  have RX := ((((R2.set1 ps).set2 pt).set3 pv).set5 pst).drew
  go_wp2_with (first
    | (go_at_call 60; (with_reducible refine (kL _ _ RX.ra RX.fn (by have := RX.far; omega)).mono ?_); rintro e w6 ⟨dv, rfl, hB6, hN6, hQ6, hR6⟩; obtain ⟨da, dc, rfl⟩ := hN6.slice; have hQ7 := own_up hQ6 (show w2.heap.size + 1 ≤ _ from RX.at_.room); have R6 := RX.but hB6 hR6; have R7 := R6.set8 l (.slice da l.length dc); have N7 := Nums.far hN6 hQ7 ⟨w2.heap.size, 8, none⟩ (.slice da l.length dc) (Nat.lt_succ_self _); have Hx := R6.at_; obtain ⟨⟨x0, x1, x2, x3, x4, x5, x6, x7, x8⟩, y0, y1, y2, y3, y4, y5, y6, y7, y8⟩ := Hx; dsimp only at x0 x1 x2 x3 x4 x5 x6 x7 x8; have hfn := R6.fn; have Ho7 := R7.out; obtain ⟨⟨zx0, zx1, zx2, zx3, zx4, zx5, zx6, zx7, zx8⟩, zy0, zy1, zy2, zy3, zy4, zy5, zy6, zy7, zy8⟩ := Ho7; dsimp only [Rec.zero] at zx0 zx1 zx2 zx3 zx4 zx5 zx6 zx7 zx8)
    | (go_at_call 62; (with_reducible refine (kE _ R7.ra).mono ?_); rintro e w7 ⟨rfl, rfl⟩; have Hx := R7.at_; obtain ⟨⟨x0, x1, x2, x3, x4, x5, x6, x7, x8⟩, y0, y1, y2, y3, y4, y5, y6, y7, y8⟩ := Hx; dsimp only at x0 x1 x2 x3 x4 x5 x6 x7 x8; have hfn := R7.fn)
    | (go_at_call 16; (with_reducible refine (kC (.slice da l.length dc) _ N7).mono ?_); rintro e w8 ⟨rfl, hb8⟩; have R8 := R7.below hb8; have N8 := N7.later hb8; have Hx := R8.at_; obtain ⟨⟨x0, x1, x2, x3, x4, x5, x6, x7, x8⟩, y0, y1, y2, y3, y4, y5, y6, y7, y8⟩ := Hx; dsimp only at x0 x1 x2 x3 x4 x5 x6 x7 x8; have hfn := R8.fn; have Ho8 := R8.out; obtain ⟨⟨zx0, zx1, zx2, zx3, zx4, zx5, zx6, zx7, zx8⟩, zy0, zy1, zy2, zy3, zy4, zy5, zy6, zy7, zy8⟩ := Ho8; dsimp only [Rec.zero] at zx0 zx1 zx2 zx3 zx4 zx5 zx6 zx7 zx8))
  refine bodyPost_ret (v := .tuple #[recV Rec.zero (.slice none 0 0), .int .i64 10]) (by unfold recV Rec.zero; simp [results, Try.results20, go_sem, zx0, zx1, zx2, zx3, zx4, zx5, zx6, zx7, zx8]; try rfl) rfl (read6_none HQ.out ?_)
  exact nine_set R8.bel _ (Nat.le_refl _) _ _ _ _ _ _ _ _ _

set_option maxHeartbeats 8000000 in
theorem pread6_s_yes (S : ByteArray) (r1 r5 r6 : ByteArray) (b1 b5 b6 : Bool) (p : Pt) (l : List Int) (z : Int) (w : World) (hs : S.size ≤ 100000) (h1 : smallQ S false 2 = (1, r1, b1)) (hp : ptR r1 b1 = (p, r5, b5)) (h6 : tvN r5 b5 = (l, r6, b6)) (hz : endQ r6 b6 = z) (hb : z = 0) (ho : Rec.ok ⟨1, p.s, p.t, p.v, 0, p.st, l⟩ = true) : Calls Try.prog 20 #[.string S] w (Read6Done S w) := by
  have hmf := makeFunc_run
  obtain ⟨i1, -, j1⟩ := smallQ_inv h1 (fun e => by cases e)
  obtain ⟨i5, j5, -⟩ := ptR_inv hp fun e => (i1 e).1
  obtain ⟨hss, ht2, hvf⟩ := ptR_st hp fun e => (i1 e).1
  have hq := recQ_tvN (head_ptR h1 hp) h6
  have hps := (ptR_inv hp fun e => (i1 e).1).2.2
  rw [if_pos ⟨by rw [hz]; exact hb, ho⟩] at hq
  have kS := fun W h => small_is (w.heap.size + 1) S r1 false b1 1 2 W (by unfold maxLen; omega) (by omega) (Lib.hid h1) h
  have kT := fun W h => takep_is (w.heap.size + 1) r1 r5 b1 b5 p W (by omega) (Lib.hid hp) (fun e => (i1 e).1) h
  have kL := fun W q h hq hne => listn_is (w.heap.size + 1) q r5 r6 b5 b6 l W (by omega) (Lib.hid h6) i5 h hq hne
  have kE := fun W h => end_is (w.heap.size + 1) r6 b6 z W h (Lib.hid hz)
  have hfit : Rec.fits ⟨1, p.s, p.t, p.v, 0, p.st, l⟩ := ⟨by simp, by dsimp only; omega, by dsimp only; omega, hvf, by simp, by dsimp only; omega⟩
  have kC := fun dv W h => check6_is ⟨1, p.s, p.t, p.v, 0, p.st, l⟩ dv W h hfit
  have he : Rec.err ⟨1, p.s, p.t, p.v, 0, p.st, l⟩ = 0 := Rec.err_yes ho
  rw [he] at kC
  unfold recV at kC
  dsimp only at kC
  have hfirst := fun w1 w2 hA1 hb1 hB2 hR => RdQ.first (w := w) (w1 := w1) (w2 := w2) (S := S) (r := r1) (b := b1) 1 hA1 hb1 hB2 hR
  have HQ := Lib.hid hq
  subst hb
  clear hq i1 j1 h1 h6 hz hs i5 j5 hss ht2 hvf hp hps hfit he ho
  unfold ptV at kT
  obtain ⟨ps, pt, pv, pst⟩ := p
  dsimp only at kT HQ kC
  go_enter Try.func20, Try.ntmps20
  go_wp2_with (first
    | (go_at_call 56; (with_reducible refine (read_is _ _).mono ?_); rintro e w1 ⟨rfl, hA1, hb1, hz1⟩; (have hA1 : RA w1 (w.heap.size + 1) S false := by simpa using hA1); have hA2 := hA1.below ((Below.refl _ _).alloc (Nat.le_refl _) (.cells #[.func (.func 57) #[.pointer (some ⟨w.heap.size + 1, 0, none⟩)] #[]] 70)); (have hfn : (w1.alloc (.cells #[.func (.func 57) #[.pointer (some ⟨w.heap.size + 1, 0, none⟩)] #[]] 70)).cell? ⟨w1.heap.size, 0, none⟩ = some (.func (.func 57) #[.pointer (some ⟨w.heap.size + 1, 0, none⟩)] #[]) := by simp [go_sem]))
    | (go_at_call 57; (with_reducible refine (kS _ hA2).mono ?_); rintro e w2 ⟨rfl, hR2, hB2⟩; have R1 := hfirst w1 w2 hA1 hb1 hB2 hR2; have Hx := R1.at_; obtain ⟨⟨x0, x1, x2, x3, x4, x5, x6, x7, x8⟩, y0, y1, y2, y3, y4, y5, y6, y7, y8⟩ := Hx; dsimp only at x0 x1 x2 x3 x4 x5 x6 x7 x8; have hfn := R1.fn)
    | (go_at_call 58; (with_reducible refine (kT _ R1.ra).mono ?_); rintro e w3 ⟨rfl, hR3, hB3⟩; have R2 := (R1.but hB3 hR3).below ((Below.refl _ _).alloc (Nat.le_refl _) (.cells #[.string ps, .int .i64 pt, .int .i64 pv, .int .i64 pst.c, .int .i64 pst.s, .int .i64 pst.q] 34)); have P2 := PtAt.new w3 ⟨ps, pt, pv, pst⟩; obtain ⟨c0, c1, c2, c3, c4, c5⟩ := P2; dsimp only at c0 c1 c2 c3 c4 c5; (have hne1 : ¬ w3.heap.size = w2.heap.size := by (have := (R1.but hB3 hR3).at_.room; omega)); (have hne2 : ¬ w2.heap.size = w3.heap.size := by (have := (R1.but hB3 hR3).at_.room; omega)); have Hx := R2.at_; obtain ⟨⟨x0, x1, x2, x3, x4, x5, x6, x7, x8⟩, y0, y1, y2, y3, y4, y5, y6, y7, y8⟩ := Hx; dsimp only at x0 x1 x2 x3 x4 x5 x6 x7 x8; have hfn := R2.fn))
  go_region
  have RX := ((((R2.set1 ps).set2 pt).set3 pv).set5 pst).drew
  go_wp2_with (first
    | (go_at_call 60; (with_reducible refine (kL _ _ RX.ra RX.fn (by have := RX.far; omega)).mono ?_); rintro e w6 ⟨dv, rfl, hB6, hN6, hQ6, hR6⟩; obtain ⟨da, dc, rfl⟩ := hN6.slice; have hQ7 := own_up hQ6 (show w2.heap.size + 1 ≤ _ from RX.at_.room); have R6 := RX.but hB6 hR6; have R7 := R6.set8 l (.slice da l.length dc); have N7 := Nums.far hN6 hQ7 ⟨w2.heap.size, 8, none⟩ (.slice da l.length dc) (Nat.lt_succ_self _); have Hx := R6.at_; obtain ⟨⟨x0, x1, x2, x3, x4, x5, x6, x7, x8⟩, y0, y1, y2, y3, y4, y5, y6, y7, y8⟩ := Hx; dsimp only at x0 x1 x2 x3 x4 x5 x6 x7 x8; have hfn := R6.fn; have Ho7 := R7.out; obtain ⟨⟨zx0, zx1, zx2, zx3, zx4, zx5, zx6, zx7, zx8⟩, zy0, zy1, zy2, zy3, zy4, zy5, zy6, zy7, zy8⟩ := Ho7; dsimp only [Rec.zero] at zx0 zx1 zx2 zx3 zx4 zx5 zx6 zx7 zx8)
    | (go_at_call 62; (with_reducible refine (kE _ R7.ra).mono ?_); rintro e w7 ⟨rfl, rfl⟩; have Hx := R7.at_; obtain ⟨⟨x0, x1, x2, x3, x4, x5, x6, x7, x8⟩, y0, y1, y2, y3, y4, y5, y6, y7, y8⟩ := Hx; dsimp only at x0 x1 x2 x3 x4 x5 x6 x7 x8; have hfn := R7.fn)
    | (go_at_call 16; (with_reducible refine (kC (.slice da l.length dc) _ N7).mono ?_); rintro e w8 ⟨rfl, hb8⟩; have R8 := R7.below hb8; have N8 := N7.later hb8; have Hx := R8.at_; obtain ⟨⟨x0, x1, x2, x3, x4, x5, x6, x7, x8⟩, y0, y1, y2, y3, y4, y5, y6, y7, y8⟩ := Hx; dsimp only at x0 x1 x2 x3 x4 x5 x6 x7 x8; have hfn := R8.fn; have Ho8 := R8.out; obtain ⟨⟨zx0, zx1, zx2, zx3, zx4, zx5, zx6, zx7, zx8⟩, zy0, zy1, zy2, zy3, zy4, zy5, zy6, zy7, zy8⟩ := Ho8; dsimp only [Rec.zero] at zx0 zx1 zx2 zx3 zx4 zx5 zx6 zx7 zx8))
  refine bodyPost_ret (v := .tuple #[recV ⟨1, ps, pt, pv, 0, pst, l⟩ (.slice da l.length dc), .int .i64 0]) (by unfold recV; simp [results, Try.results20, go_sem, zx0, zx1, zx2, zx3, zx4, zx5, zx6, zx7, zx8]; try rfl) rfl (read6_some HQ.out ?_ ?_)
  · exact nine_far N8 hQ7 _ (by have := R8.far; have := R8.qe; omega) _ _ _ _ _ _ _ _ _
  · exact nine_set R8.bel _ (Nat.le_refl _) _ _ _ _ _ _ _ _ _

set_option maxHeartbeats 8000000 in
theorem pread6_c_bad (S : ByteArray) (r1 r2 r3 r5 r6 : ByteArray) (b1 b2 b3 b5 b6 : Bool) (x t : Int) (a : St) (l : List Int) (z : Int) (w : World) (hs : S.size ≤ 100000) (h1 : smallQ S false 2 = (2, r1, b1)) (h2 : smallQ r1 b1 3 = (x, r2, b2)) (h3 : smallQ r2 b2 1099511627776 = (t, r3, b3)) (h5 : takeQ r3 b3 = (a, r5, b5)) (h6 : tvN r5 b5 = (l, r6, b6)) (hz : endQ r6 b6 = z) (hb : (z != 0) = true) : Calls Try.prog 20 #[.string S] w (Read6Done S w) := by
  have hmf := makeFunc_run
  obtain ⟨i1, -, j1⟩ := smallQ_inv h1 (fun e => by cases e)
  obtain ⟨i2, -, j2⟩ := smallQ_inv h2 fun e => (i1 e).1
  obtain ⟨i3, -, j3⟩ := smallQ_inv h3 fun e => (i2 e).1
  obtain ⟨i5, j5⟩ := takeQ_inv h5 fun e => (i3 e).1
  have hss := take_range6 h5 fun e => (i3 e).1
  have hx := smallQ_range h2 (by omega)
  have ht2 := smallQ_range h3 (by omega)
  have hq := recQ_tvN (head_cut h1 (by omega) h2 h3 h5) h6
  rw [if_neg (fun g => by rw [hz] at g; rw [g.1] at hb; simp at hb)] at hq
  have kS := fun W h => small_is (w.heap.size + 1) S r1 false b1 2 2 W (by unfold maxLen; omega) (by omega) (Lib.hid h1) h
  have k2 := fun W h => small_is (w.heap.size + 1) r1 r2 b1 b2 x 3 W (by unfold maxLen; omega) (by omega) (Lib.hid h2) h
  have k3 := fun W h => small_is (w.heap.size + 1) r2 r3 b2 b3 t 1099511627776 W (by unfold maxLen; omega) (by omega) (Lib.hid h3) h
  have k5 := fun W h => take_is (w.heap.size + 1) r3 r5 b3 b5 a W (by omega) (Lib.hid h5) (fun e => (i3 e).1) h
  have kL := fun W q h hq hne => listn_is (w.heap.size + 1) q r5 r6 b5 b6 l W (by omega) (Lib.hid h6) i5 h hq hne
  have kE := fun W h => end_is (w.heap.size + 1) r6 b6 z W h (Lib.hid hz)
  have hfirst := fun w1 w2 hA1 hb1 hB2 hR => RdQ.first (w := w) (w1 := w1) (w2 := w2) (S := S) (r := r1) (b := b1) 2 hA1 hb1 hB2 hR
  have HQ := Lib.hid hq
  clear hq i1 j1 h1 h6 hz hs i2 j2 i3 j3 i5 j5 hss hx ht2 h2 h3 h5
  go_enter Try.func20, Try.ntmps20
  go_wp2_with (first
    | (go_at_call 56; (with_reducible refine (read_is _ _).mono ?_); rintro e w1 ⟨rfl, hA1, hb1, hz1⟩; (have hA1 : RA w1 (w.heap.size + 1) S false := by simpa using hA1); have hA2 := hA1.below ((Below.refl _ _).alloc (Nat.le_refl _) (.cells #[.func (.func 57) #[.pointer (some ⟨w.heap.size + 1, 0, none⟩)] #[]] 70)); (have hfn : (w1.alloc (.cells #[.func (.func 57) #[.pointer (some ⟨w.heap.size + 1, 0, none⟩)] #[]] 70)).cell? ⟨w1.heap.size, 0, none⟩ = some (.func (.func 57) #[.pointer (some ⟨w.heap.size + 1, 0, none⟩)] #[]) := by simp [go_sem]))
    | (go_at_call 57; (with_reducible refine (kS _ hA2).mono ?_); rintro e w2 ⟨rfl, hR2, hB2⟩; have R1 := hfirst w1 w2 hA1 hb1 hB2 hR2; have Hx := R1.at_; obtain ⟨⟨x0, x1, x2, x3, x4, x5, x6, x7, x8⟩, y0, y1, y2, y3, y4, y5, y6, y7, y8⟩ := Hx; dsimp only at x0 x1 x2 x3 x4 x5 x6 x7 x8; have hfn := R1.fn))
  refine wp_region_held_drew (S := (fun W => W.cell? ⟨w1.heap.size, 0, none⟩ = some (.func (.func 57) #[.pointer (some ⟨w.heap.size + 1, 0, none⟩)] #[]))) (by kernel_rfl) R1.drew.fn (fun hHeld => ?_)
  refine wpAnyH_take (i := 0) (oi := ?obad1o) (v := ?obad1v) ?obad1h (by kernel_rfl) (by kernel_rfl) (by kernel_rfl) ?obad1q ?obad1y hHeld ?obad1r
  case obad1h => (simp only [List.getElem?_toArray, List.getElem?_cons_zero]; rfl)
  case obad1q => exact fun _ _ _ h => h
  case obad1y => (refine Or.inl ⟨by first | kernel_rfl | rfl, ?_⟩; intro w hSw; (try dsimp only at hSw); go_simp <;> (try with_reducible rfl))
  try simp only [Act.put, List.setIfInBounds_toArray, List.set_cons_zero, List.set_cons_succ]
  refine wpAnyH_take (i := 2) (oi := ?obad2o) (v := ?obad2v) ?obad2h (by kernel_rfl) (by kernel_rfl) (by kernel_rfl) ?obad2q ?obad2y hHeld ?obad2r
  case obad2h => (simp only [List.getElem?_toArray, List.getElem?_cons_succ, List.getElem?_cons_zero]; rfl)
  case obad2q => exact fun _ _ _ h => h
  case obad2y => (refine Or.inl ⟨by first | kernel_rfl | rfl, ?_⟩; intro w hSw; (try dsimp only at hSw); go_simp <;> (try with_reducible rfl))
  try simp only [Act.put, List.setIfInBounds_toArray, List.set_cons_zero, List.set_cons_succ]
  refine wpAnyH_take (i := 4) (oi := ?obad3o) (v := ?obad3v) ?obad3h (by kernel_rfl) (by kernel_rfl) (by kernel_rfl) ?obad3q ?obad3y hHeld ?obad3r
  case obad3h => (simp only [List.getElem?_toArray, List.getElem?_cons_succ, List.getElem?_cons_zero]; rfl)
  case obad3q => exact fun _ _ _ h => h
  case obad3y => (refine Or.inl ⟨by first | kernel_rfl | rfl, ?_⟩; intro w hSw; (try dsimp only at hSw); go_simp <;> (try with_reducible rfl))
  try simp only [Act.put, List.setIfInBounds_toArray, List.set_cons_zero, List.set_cons_succ]
  refine wpAnyH_ready (rs := [1]) (by kernel_rfl) (by simp) ?_
  refine (AllReadyH.cons rfl (fun K hK => ?_) AllReadyH.nil)
  go_simp
  ((with_reducible refine (k2 _ R1.drew.ra).mono ?_); rintro e w3 ⟨rfl, hR, hB⟩; have R2 := R1.drew.but hB hR; have Hx := R2.at_; obtain ⟨⟨x0, x1, x2, x3, x4, x5, x6, x7, x8⟩, y0, y1, y2, y3, y4, y5, y6, y7, y8⟩ := Hx; dsimp only at x0 x1 x2 x3 x4 x5 x6 x7 x8; have hfn := R2.fn)
  refine hK.out _ _ (R2.fn) (fun hHeld => ?_)
  clear hK K
  try simp only [Act.put, List.setIfInBounds_toArray, List.set_cons_zero, List.set_cons_succ]
  refine wpAnyH_take (i := 6) (oi := ?obad4o) (v := ?obad4v) ?obad4h (by kernel_rfl) (by kernel_rfl) (by kernel_rfl) ?obad4q ?obad4y hHeld ?obad4r
  case obad4h => (simp only [List.getElem?_toArray, List.getElem?_cons_succ, List.getElem?_cons_zero]; rfl)
  case obad4q => exact fun _ _ _ h => h
  case obad4y => (refine Or.inl ⟨by first | kernel_rfl | rfl, ?_⟩; intro w hSw; (try dsimp only at hSw); go_simp <;> (try with_reducible rfl))
  try simp only [Act.put, List.setIfInBounds_toArray, List.set_cons_zero, List.set_cons_succ]
  refine wpAnyH_ready (rs := [3]) (by kernel_rfl) (by simp) ?_
  refine (AllReadyH.cons rfl (fun K hK => ?_) AllReadyH.nil)
  go_simp
  ((with_reducible refine (k3 _ R2.ra).mono ?_); rintro e w4 ⟨rfl, hR, hB⟩; have R3 := R2.but hB hR; have Hx := R3.at_; obtain ⟨⟨x0, x1, x2, x3, x4, x5, x6, x7, x8⟩, y0, y1, y2, y3, y4, y5, y6, y7, y8⟩ := Hx; dsimp only at x0 x1 x2 x3 x4 x5 x6 x7 x8; have hfn := R3.fn)
  refine hK.out _ _ (R3.fn) (fun hHeld => ?_)
  clear hK K
  try simp only [Act.put, List.setIfInBounds_toArray, List.set_cons_zero, List.set_cons_succ]
  refine wpAnyH_ready (rs := [5]) (by kernel_rfl) (by simp) ?_
  refine (AllReadyH.cons rfl (fun K hK => ?_) AllReadyH.nil)
  go_simp
  ((with_reducible refine (k5 _ R3.ra).mono ?_); rintro e w5 ⟨rfl, hR, hB⟩; have R4 := R3.but hB hR; have Hx := R4.at_; obtain ⟨⟨x0, x1, x2, x3, x4, x5, x6, x7, x8⟩, y0, y1, y2, y3, y4, y5, y6, y7, y8⟩ := Hx; dsimp only at x0 x1 x2 x3 x4 x5 x6 x7 x8; have hfn := R4.fn)
  refine hK.out _ _ (R4.fn) (fun hHeld => ?_)
  clear hK K
  try simp only [Act.put, List.setIfInBounds_toArray, List.set_cons_zero, List.set_cons_succ]
  refine wpAnyH_ready (rs := [7]) (by kernel_rfl) (by simp) ?_
  refine (AllReadyH.cons rfl (fun K hK => ?_) AllReadyH.nil)
  go_simp
  skip
  refine hK.out _ _ ((R4.set4 x).fn) (fun hHeld => ?_)
  clear hK K
  try simp only [Act.put, List.setIfInBounds_toArray, List.set_cons_zero, List.set_cons_succ]
  refine wpAnyH_take (i := 8) (oi := ?obad5o) (v := ?obad5v) ?obad5h (by kernel_rfl) (by kernel_rfl) (by kernel_rfl) ?obad5q ?obad5y hHeld ?obad5r
  case obad5h => (simp only [List.getElem?_toArray, List.getElem?_cons_succ, List.getElem?_cons_zero]; rfl)
  case obad5q => exact fun _ _ _ h => h
  case obad5y => (refine Or.inl ⟨by first | kernel_rfl | rfl, ?_⟩; intro w hSw; (try dsimp only at hSw); go_simp <;> (try with_reducible rfl))
  try simp only [Act.put, List.setIfInBounds_toArray, List.set_cons_zero, List.set_cons_succ]
  refine wpAnyH_ready (rs := [9]) (by kernel_rfl) (by simp) ?_
  refine (AllReadyH.cons rfl (fun K hK => ?_) AllReadyH.nil)
  go_simp
  skip
  refine hK.out _ _ (((R4.set4 x).set2 t).fn) (fun hHeld => ?_)
  clear hK K
  try simp only [Act.put, List.setIfInBounds_toArray, List.set_cons_zero, List.set_cons_succ]
  refine wpAnyH_take (i := 10) (oi := ?obad6o) (v := ?obad6v) ?obad6h (by kernel_rfl) (by kernel_rfl) (by kernel_rfl) ?obad6q ?obad6y hHeld ?obad6r
  case obad6h => (simp only [List.getElem?_toArray, List.getElem?_cons_succ, List.getElem?_cons_zero]; rfl)
  case obad6q => exact fun _ _ _ h => h
  case obad6y => (refine Or.inl ⟨by first | kernel_rfl | rfl, ?_⟩; intro w hSw; (try dsimp only at hSw); go_simp <;> (try with_reducible rfl))
  try simp only [Act.put, List.setIfInBounds_toArray, List.set_cons_zero, List.set_cons_succ]
  refine wpAnyH_ready (rs := [11]) (by kernel_rfl) (by simp) ?_
  refine (AllReadyH.cons rfl (fun K hK => ?_) AllReadyH.nil)
  go_simp
  skip
  refine hK.out _ _ ((((R4.set4 x).set2 t).set5 a).fn) (fun hHeld => ?_)
  clear hK K
  try simp only [Act.put, List.setIfInBounds_toArray, List.set_cons_zero, List.set_cons_succ]
  refine wpAnyH_done (by kernel_rfl) ?_ _
  skip
  have RX := (((R4.set4 x).set2 t).set5 a)
  go_wp2_with (first
    | (go_at_call 60; (with_reducible refine (kL _ _ RX.ra RX.fn (by have := RX.far; omega)).mono ?_); rintro e w6 ⟨dv, rfl, hB6, hN6, hQ6, hR6⟩; obtain ⟨da, dc, rfl⟩ := hN6.slice; have hQ7 := own_up hQ6 (show w2.heap.size + 1 ≤ _ from RX.at_.room); have R6 := RX.but hB6 hR6; have R7 := R6.set8 l (.slice da l.length dc); have N7 := Nums.far hN6 hQ7 ⟨w2.heap.size, 8, none⟩ (.slice da l.length dc) (Nat.lt_succ_self _); have Hx := R6.at_; obtain ⟨⟨x0, x1, x2, x3, x4, x5, x6, x7, x8⟩, y0, y1, y2, y3, y4, y5, y6, y7, y8⟩ := Hx; dsimp only at x0 x1 x2 x3 x4 x5 x6 x7 x8; have hfn := R6.fn; have Ho7 := R7.out; obtain ⟨⟨zx0, zx1, zx2, zx3, zx4, zx5, zx6, zx7, zx8⟩, zy0, zy1, zy2, zy3, zy4, zy5, zy6, zy7, zy8⟩ := Ho7; dsimp only [Rec.zero] at zx0 zx1 zx2 zx3 zx4 zx5 zx6 zx7 zx8)
    | (go_at_call 62; (with_reducible refine (kE _ R7.ra).mono ?_); rintro e w7 ⟨rfl, rfl⟩; have Hx := R7.at_; obtain ⟨⟨x0, x1, x2, x3, x4, x5, x6, x7, x8⟩, y0, y1, y2, y3, y4, y5, y6, y7, y8⟩ := Hx; dsimp only at x0 x1 x2 x3 x4 x5 x6 x7 x8; have hfn := R7.fn))
  refine bodyPost_ret (v := .tuple #[recV Rec.zero (.slice none 0 0), .int .i64 10]) (by unfold recV Rec.zero; simp [results, Try.results20, go_sem, zx0, zx1, zx2, zx3, zx4, zx5, zx6, zx7, zx8]; try rfl) rfl (read6_none HQ.out ?_)
  exact nine_set R7.bel _ (Nat.le_refl _) _ _ _ _ _ _ _ _ _

set_option maxHeartbeats 8000000 in
theorem pread6_c_no (S : ByteArray) (r1 r2 r3 r5 r6 : ByteArray) (b1 b2 b3 b5 b6 : Bool) (x t : Int) (a : St) (l : List Int) (z : Int) (w : World) (hs : S.size ≤ 100000) (h1 : smallQ S false 2 = (2, r1, b1)) (h2 : smallQ r1 b1 3 = (x, r2, b2)) (h3 : smallQ r2 b2 1099511627776 = (t, r3, b3)) (h5 : takeQ r3 b3 = (a, r5, b5)) (h6 : tvN r5 b5 = (l, r6, b6)) (hz : endQ r6 b6 = z) (hb : z = 0) (ho : Rec.ok ⟨2, ⟨#[]⟩, t, 0, x, a, l⟩ = false) : Calls Try.prog 20 #[.string S] w (Read6Done S w) := by
  have hmf := makeFunc_run
  obtain ⟨i1, -, j1⟩ := smallQ_inv h1 (fun e => by cases e)
  obtain ⟨i2, -, j2⟩ := smallQ_inv h2 fun e => (i1 e).1
  obtain ⟨i3, -, j3⟩ := smallQ_inv h3 fun e => (i2 e).1
  obtain ⟨i5, j5⟩ := takeQ_inv h5 fun e => (i3 e).1
  have hss := take_range6 h5 fun e => (i3 e).1
  have hx := smallQ_range h2 (by omega)
  have ht2 := smallQ_range h3 (by omega)
  have hq := recQ_tvN (head_cut h1 (by omega) h2 h3 h5) h6
  rw [if_neg (fun g => by have := g.2; rw [show Rec.ok _ = false from ho] at this; cases this)] at hq
  have kS := fun W h => small_is (w.heap.size + 1) S r1 false b1 2 2 W (by unfold maxLen; omega) (by omega) (Lib.hid h1) h
  have k2 := fun W h => small_is (w.heap.size + 1) r1 r2 b1 b2 x 3 W (by unfold maxLen; omega) (by omega) (Lib.hid h2) h
  have k3 := fun W h => small_is (w.heap.size + 1) r2 r3 b2 b3 t 1099511627776 W (by unfold maxLen; omega) (by omega) (Lib.hid h3) h
  have k5 := fun W h => take_is (w.heap.size + 1) r3 r5 b3 b5 a W (by omega) (Lib.hid h5) (fun e => (i3 e).1) h
  have kL := fun W q h hq hne => listn_is (w.heap.size + 1) q r5 r6 b5 b6 l W (by omega) (Lib.hid h6) i5 h hq hne
  have kE := fun W h => end_is (w.heap.size + 1) r6 b6 z W h (Lib.hid hz)
  have hfit : Rec.fits ⟨2, ⟨#[]⟩, t, 0, x, a, l⟩ := ⟨by simp, by show (⟨#[]⟩ : ByteArray).size ≤ _; decide, by dsimp only; omega, by simp, by dsimp only; omega, by dsimp only; omega⟩
  have kC := fun dv W h => check6_is ⟨2, ⟨#[]⟩, t, 0, x, a, l⟩ dv W h hfit
  have he : Rec.err ⟨2, ⟨#[]⟩, t, 0, x, a, l⟩ = 1 := Rec.err_no ho
  rw [he] at kC
  unfold recV at kC
  dsimp only at kC
  have hfirst := fun w1 w2 hA1 hb1 hB2 hR => RdQ.first (w := w) (w1 := w1) (w2 := w2) (S := S) (r := r1) (b := b1) 2 hA1 hb1 hB2 hR
  have HQ := Lib.hid hq
  subst hb
  clear hq i1 j1 h1 h6 hz hs i2 j2 i3 j3 i5 j5 hss hx ht2 h2 h3 h5 hfit he ho
  go_enter Try.func20, Try.ntmps20
  go_wp2_with (first
    | (go_at_call 56; (with_reducible refine (read_is _ _).mono ?_); rintro e w1 ⟨rfl, hA1, hb1, hz1⟩; (have hA1 : RA w1 (w.heap.size + 1) S false := by simpa using hA1); have hA2 := hA1.below ((Below.refl _ _).alloc (Nat.le_refl _) (.cells #[.func (.func 57) #[.pointer (some ⟨w.heap.size + 1, 0, none⟩)] #[]] 70)); (have hfn : (w1.alloc (.cells #[.func (.func 57) #[.pointer (some ⟨w.heap.size + 1, 0, none⟩)] #[]] 70)).cell? ⟨w1.heap.size, 0, none⟩ = some (.func (.func 57) #[.pointer (some ⟨w.heap.size + 1, 0, none⟩)] #[]) := by simp [go_sem]))
    | (go_at_call 57; (with_reducible refine (kS _ hA2).mono ?_); rintro e w2 ⟨rfl, hR2, hB2⟩; have R1 := hfirst w1 w2 hA1 hb1 hB2 hR2; have Hx := R1.at_; obtain ⟨⟨x0, x1, x2, x3, x4, x5, x6, x7, x8⟩, y0, y1, y2, y3, y4, y5, y6, y7, y8⟩ := Hx; dsimp only at x0 x1 x2 x3 x4 x5 x6 x7 x8; have hfn := R1.fn))
  refine wp_region_held_drew (S := (fun W => W.cell? ⟨w1.heap.size, 0, none⟩ = some (.func (.func 57) #[.pointer (some ⟨w.heap.size + 1, 0, none⟩)] #[]))) (by kernel_rfl) R1.drew.fn (fun hHeld => ?_)
  refine wpAnyH_take (i := 0) (oi := ?ono1o) (v := ?ono1v) ?ono1h (by kernel_rfl) (by kernel_rfl) (by kernel_rfl) ?ono1q ?ono1y hHeld ?ono1r
  case ono1h => (simp only [List.getElem?_toArray, List.getElem?_cons_zero]; rfl)
  case ono1q => exact fun _ _ _ h => h
  case ono1y => (refine Or.inl ⟨by first | kernel_rfl | rfl, ?_⟩; intro w hSw; (try dsimp only at hSw); go_simp <;> (try with_reducible rfl))
  try simp only [Act.put, List.setIfInBounds_toArray, List.set_cons_zero, List.set_cons_succ]
  refine wpAnyH_take (i := 2) (oi := ?ono2o) (v := ?ono2v) ?ono2h (by kernel_rfl) (by kernel_rfl) (by kernel_rfl) ?ono2q ?ono2y hHeld ?ono2r
  case ono2h => (simp only [List.getElem?_toArray, List.getElem?_cons_succ, List.getElem?_cons_zero]; rfl)
  case ono2q => exact fun _ _ _ h => h
  case ono2y => (refine Or.inl ⟨by first | kernel_rfl | rfl, ?_⟩; intro w hSw; (try dsimp only at hSw); go_simp <;> (try with_reducible rfl))
  try simp only [Act.put, List.setIfInBounds_toArray, List.set_cons_zero, List.set_cons_succ]
  refine wpAnyH_take (i := 4) (oi := ?ono3o) (v := ?ono3v) ?ono3h (by kernel_rfl) (by kernel_rfl) (by kernel_rfl) ?ono3q ?ono3y hHeld ?ono3r
  case ono3h => (simp only [List.getElem?_toArray, List.getElem?_cons_succ, List.getElem?_cons_zero]; rfl)
  case ono3q => exact fun _ _ _ h => h
  case ono3y => (refine Or.inl ⟨by first | kernel_rfl | rfl, ?_⟩; intro w hSw; (try dsimp only at hSw); go_simp <;> (try with_reducible rfl))
  try simp only [Act.put, List.setIfInBounds_toArray, List.set_cons_zero, List.set_cons_succ]
  refine wpAnyH_ready (rs := [1]) (by kernel_rfl) (by simp) ?_
  refine (AllReadyH.cons rfl (fun K hK => ?_) AllReadyH.nil)
  go_simp
  ((with_reducible refine (k2 _ R1.drew.ra).mono ?_); rintro e w3 ⟨rfl, hR, hB⟩; have R2 := R1.drew.but hB hR; have Hx := R2.at_; obtain ⟨⟨x0, x1, x2, x3, x4, x5, x6, x7, x8⟩, y0, y1, y2, y3, y4, y5, y6, y7, y8⟩ := Hx; dsimp only at x0 x1 x2 x3 x4 x5 x6 x7 x8; have hfn := R2.fn)
  refine hK.out _ _ (R2.fn) (fun hHeld => ?_)
  clear hK K
  try simp only [Act.put, List.setIfInBounds_toArray, List.set_cons_zero, List.set_cons_succ]
  refine wpAnyH_take (i := 6) (oi := ?ono4o) (v := ?ono4v) ?ono4h (by kernel_rfl) (by kernel_rfl) (by kernel_rfl) ?ono4q ?ono4y hHeld ?ono4r
  case ono4h => (simp only [List.getElem?_toArray, List.getElem?_cons_succ, List.getElem?_cons_zero]; rfl)
  case ono4q => exact fun _ _ _ h => h
  case ono4y => (refine Or.inl ⟨by first | kernel_rfl | rfl, ?_⟩; intro w hSw; (try dsimp only at hSw); go_simp <;> (try with_reducible rfl))
  try simp only [Act.put, List.setIfInBounds_toArray, List.set_cons_zero, List.set_cons_succ]
  refine wpAnyH_ready (rs := [3]) (by kernel_rfl) (by simp) ?_
  refine (AllReadyH.cons rfl (fun K hK => ?_) AllReadyH.nil)
  go_simp
  ((with_reducible refine (k3 _ R2.ra).mono ?_); rintro e w4 ⟨rfl, hR, hB⟩; have R3 := R2.but hB hR; have Hx := R3.at_; obtain ⟨⟨x0, x1, x2, x3, x4, x5, x6, x7, x8⟩, y0, y1, y2, y3, y4, y5, y6, y7, y8⟩ := Hx; dsimp only at x0 x1 x2 x3 x4 x5 x6 x7 x8; have hfn := R3.fn)
  refine hK.out _ _ (R3.fn) (fun hHeld => ?_)
  clear hK K
  try simp only [Act.put, List.setIfInBounds_toArray, List.set_cons_zero, List.set_cons_succ]
  refine wpAnyH_ready (rs := [5]) (by kernel_rfl) (by simp) ?_
  refine (AllReadyH.cons rfl (fun K hK => ?_) AllReadyH.nil)
  go_simp
  ((with_reducible refine (k5 _ R3.ra).mono ?_); rintro e w5 ⟨rfl, hR, hB⟩; have R4 := R3.but hB hR; have Hx := R4.at_; obtain ⟨⟨x0, x1, x2, x3, x4, x5, x6, x7, x8⟩, y0, y1, y2, y3, y4, y5, y6, y7, y8⟩ := Hx; dsimp only at x0 x1 x2 x3 x4 x5 x6 x7 x8; have hfn := R4.fn)
  refine hK.out _ _ (R4.fn) (fun hHeld => ?_)
  clear hK K
  try simp only [Act.put, List.setIfInBounds_toArray, List.set_cons_zero, List.set_cons_succ]
  refine wpAnyH_ready (rs := [7]) (by kernel_rfl) (by simp) ?_
  refine (AllReadyH.cons rfl (fun K hK => ?_) AllReadyH.nil)
  go_simp
  skip
  refine hK.out _ _ ((R4.set4 x).fn) (fun hHeld => ?_)
  clear hK K
  try simp only [Act.put, List.setIfInBounds_toArray, List.set_cons_zero, List.set_cons_succ]
  refine wpAnyH_take (i := 8) (oi := ?ono5o) (v := ?ono5v) ?ono5h (by kernel_rfl) (by kernel_rfl) (by kernel_rfl) ?ono5q ?ono5y hHeld ?ono5r
  case ono5h => (simp only [List.getElem?_toArray, List.getElem?_cons_succ, List.getElem?_cons_zero]; rfl)
  case ono5q => exact fun _ _ _ h => h
  case ono5y => (refine Or.inl ⟨by first | kernel_rfl | rfl, ?_⟩; intro w hSw; (try dsimp only at hSw); go_simp <;> (try with_reducible rfl))
  try simp only [Act.put, List.setIfInBounds_toArray, List.set_cons_zero, List.set_cons_succ]
  refine wpAnyH_ready (rs := [9]) (by kernel_rfl) (by simp) ?_
  refine (AllReadyH.cons rfl (fun K hK => ?_) AllReadyH.nil)
  go_simp
  skip
  refine hK.out _ _ (((R4.set4 x).set2 t).fn) (fun hHeld => ?_)
  clear hK K
  try simp only [Act.put, List.setIfInBounds_toArray, List.set_cons_zero, List.set_cons_succ]
  refine wpAnyH_take (i := 10) (oi := ?ono6o) (v := ?ono6v) ?ono6h (by kernel_rfl) (by kernel_rfl) (by kernel_rfl) ?ono6q ?ono6y hHeld ?ono6r
  case ono6h => (simp only [List.getElem?_toArray, List.getElem?_cons_succ, List.getElem?_cons_zero]; rfl)
  case ono6q => exact fun _ _ _ h => h
  case ono6y => (refine Or.inl ⟨by first | kernel_rfl | rfl, ?_⟩; intro w hSw; (try dsimp only at hSw); go_simp <;> (try with_reducible rfl))
  try simp only [Act.put, List.setIfInBounds_toArray, List.set_cons_zero, List.set_cons_succ]
  refine wpAnyH_ready (rs := [11]) (by kernel_rfl) (by simp) ?_
  refine (AllReadyH.cons rfl (fun K hK => ?_) AllReadyH.nil)
  go_simp
  skip
  refine hK.out _ _ ((((R4.set4 x).set2 t).set5 a).fn) (fun hHeld => ?_)
  clear hK K
  try simp only [Act.put, List.setIfInBounds_toArray, List.set_cons_zero, List.set_cons_succ]
  refine wpAnyH_done (by kernel_rfl) ?_ _
  skip
  have RX := (((R4.set4 x).set2 t).set5 a)
  go_wp2_with (first
    | (go_at_call 60; (with_reducible refine (kL _ _ RX.ra RX.fn (by have := RX.far; omega)).mono ?_); rintro e w6 ⟨dv, rfl, hB6, hN6, hQ6, hR6⟩; obtain ⟨da, dc, rfl⟩ := hN6.slice; have hQ7 := own_up hQ6 (show w2.heap.size + 1 ≤ _ from RX.at_.room); have R6 := RX.but hB6 hR6; have R7 := R6.set8 l (.slice da l.length dc); have N7 := Nums.far hN6 hQ7 ⟨w2.heap.size, 8, none⟩ (.slice da l.length dc) (Nat.lt_succ_self _); have Hx := R6.at_; obtain ⟨⟨x0, x1, x2, x3, x4, x5, x6, x7, x8⟩, y0, y1, y2, y3, y4, y5, y6, y7, y8⟩ := Hx; dsimp only at x0 x1 x2 x3 x4 x5 x6 x7 x8; have hfn := R6.fn; have Ho7 := R7.out; obtain ⟨⟨zx0, zx1, zx2, zx3, zx4, zx5, zx6, zx7, zx8⟩, zy0, zy1, zy2, zy3, zy4, zy5, zy6, zy7, zy8⟩ := Ho7; dsimp only [Rec.zero] at zx0 zx1 zx2 zx3 zx4 zx5 zx6 zx7 zx8)
    | (go_at_call 62; (with_reducible refine (kE _ R7.ra).mono ?_); rintro e w7 ⟨rfl, rfl⟩; have Hx := R7.at_; obtain ⟨⟨x0, x1, x2, x3, x4, x5, x6, x7, x8⟩, y0, y1, y2, y3, y4, y5, y6, y7, y8⟩ := Hx; dsimp only at x0 x1 x2 x3 x4 x5 x6 x7 x8; have hfn := R7.fn)
    | (go_at_call 16; (with_reducible refine (kC (.slice da l.length dc) _ N7).mono ?_); rintro e w8 ⟨rfl, hb8⟩; have R8 := R7.below hb8; have N8 := N7.later hb8; have Hx := R8.at_; obtain ⟨⟨x0, x1, x2, x3, x4, x5, x6, x7, x8⟩, y0, y1, y2, y3, y4, y5, y6, y7, y8⟩ := Hx; dsimp only at x0 x1 x2 x3 x4 x5 x6 x7 x8; have hfn := R8.fn; have Ho8 := R8.out; obtain ⟨⟨zx0, zx1, zx2, zx3, zx4, zx5, zx6, zx7, zx8⟩, zy0, zy1, zy2, zy3, zy4, zy5, zy6, zy7, zy8⟩ := Ho8; dsimp only [Rec.zero] at zx0 zx1 zx2 zx3 zx4 zx5 zx6 zx7 zx8))
  refine bodyPost_ret (v := .tuple #[recV Rec.zero (.slice none 0 0), .int .i64 10]) (by unfold recV Rec.zero; simp [results, Try.results20, go_sem, zx0, zx1, zx2, zx3, zx4, zx5, zx6, zx7, zx8]; try rfl) rfl (read6_none HQ.out ?_)
  exact nine_set R8.bel _ (Nat.le_refl _) _ _ _ _ _ _ _ _ _

set_option maxHeartbeats 8000000 in
theorem pread6_c_yes (S : ByteArray) (r1 r2 r3 r5 r6 : ByteArray) (b1 b2 b3 b5 b6 : Bool) (x t : Int) (a : St) (l : List Int) (z : Int) (w : World) (hs : S.size ≤ 100000) (h1 : smallQ S false 2 = (2, r1, b1)) (h2 : smallQ r1 b1 3 = (x, r2, b2)) (h3 : smallQ r2 b2 1099511627776 = (t, r3, b3)) (h5 : takeQ r3 b3 = (a, r5, b5)) (h6 : tvN r5 b5 = (l, r6, b6)) (hz : endQ r6 b6 = z) (hb : z = 0) (ho : Rec.ok ⟨2, ⟨#[]⟩, t, 0, x, a, l⟩ = true) : Calls Try.prog 20 #[.string S] w (Read6Done S w) := by
  have hmf := makeFunc_run
  obtain ⟨i1, -, j1⟩ := smallQ_inv h1 (fun e => by cases e)
  obtain ⟨i2, -, j2⟩ := smallQ_inv h2 fun e => (i1 e).1
  obtain ⟨i3, -, j3⟩ := smallQ_inv h3 fun e => (i2 e).1
  obtain ⟨i5, j5⟩ := takeQ_inv h5 fun e => (i3 e).1
  have hss := take_range6 h5 fun e => (i3 e).1
  have hx := smallQ_range h2 (by omega)
  have ht2 := smallQ_range h3 (by omega)
  have hq := recQ_tvN (head_cut h1 (by omega) h2 h3 h5) h6
  rw [if_pos ⟨by rw [hz]; exact hb, ho⟩] at hq
  have kS := fun W h => small_is (w.heap.size + 1) S r1 false b1 2 2 W (by unfold maxLen; omega) (by omega) (Lib.hid h1) h
  have k2 := fun W h => small_is (w.heap.size + 1) r1 r2 b1 b2 x 3 W (by unfold maxLen; omega) (by omega) (Lib.hid h2) h
  have k3 := fun W h => small_is (w.heap.size + 1) r2 r3 b2 b3 t 1099511627776 W (by unfold maxLen; omega) (by omega) (Lib.hid h3) h
  have k5 := fun W h => take_is (w.heap.size + 1) r3 r5 b3 b5 a W (by omega) (Lib.hid h5) (fun e => (i3 e).1) h
  have kL := fun W q h hq hne => listn_is (w.heap.size + 1) q r5 r6 b5 b6 l W (by omega) (Lib.hid h6) i5 h hq hne
  have kE := fun W h => end_is (w.heap.size + 1) r6 b6 z W h (Lib.hid hz)
  have hfit : Rec.fits ⟨2, ⟨#[]⟩, t, 0, x, a, l⟩ := ⟨by simp, by show (⟨#[]⟩ : ByteArray).size ≤ _; decide, by dsimp only; omega, by simp, by dsimp only; omega, by dsimp only; omega⟩
  have kC := fun dv W h => check6_is ⟨2, ⟨#[]⟩, t, 0, x, a, l⟩ dv W h hfit
  have he : Rec.err ⟨2, ⟨#[]⟩, t, 0, x, a, l⟩ = 0 := Rec.err_yes ho
  rw [he] at kC
  unfold recV at kC
  dsimp only at kC
  have hfirst := fun w1 w2 hA1 hb1 hB2 hR => RdQ.first (w := w) (w1 := w1) (w2 := w2) (S := S) (r := r1) (b := b1) 2 hA1 hb1 hB2 hR
  have HQ := Lib.hid hq
  subst hb
  clear hq i1 j1 h1 h6 hz hs i2 j2 i3 j3 i5 j5 hss hx ht2 h2 h3 h5 hfit he ho
  go_enter Try.func20, Try.ntmps20
  go_wp2_with (first
    | (go_at_call 56; (with_reducible refine (read_is _ _).mono ?_); rintro e w1 ⟨rfl, hA1, hb1, hz1⟩; (have hA1 : RA w1 (w.heap.size + 1) S false := by simpa using hA1); have hA2 := hA1.below ((Below.refl _ _).alloc (Nat.le_refl _) (.cells #[.func (.func 57) #[.pointer (some ⟨w.heap.size + 1, 0, none⟩)] #[]] 70)); (have hfn : (w1.alloc (.cells #[.func (.func 57) #[.pointer (some ⟨w.heap.size + 1, 0, none⟩)] #[]] 70)).cell? ⟨w1.heap.size, 0, none⟩ = some (.func (.func 57) #[.pointer (some ⟨w.heap.size + 1, 0, none⟩)] #[]) := by simp [go_sem]))
    | (go_at_call 57; (with_reducible refine (kS _ hA2).mono ?_); rintro e w2 ⟨rfl, hR2, hB2⟩; have R1 := hfirst w1 w2 hA1 hb1 hB2 hR2; have Hx := R1.at_; obtain ⟨⟨x0, x1, x2, x3, x4, x5, x6, x7, x8⟩, y0, y1, y2, y3, y4, y5, y6, y7, y8⟩ := Hx; dsimp only at x0 x1 x2 x3 x4 x5 x6 x7 x8; have hfn := R1.fn))
  refine wp_region_held_drew (S := (fun W => W.cell? ⟨w1.heap.size, 0, none⟩ = some (.func (.func 57) #[.pointer (some ⟨w.heap.size + 1, 0, none⟩)] #[]))) (by kernel_rfl) R1.drew.fn (fun hHeld => ?_)
  refine wpAnyH_take (i := 0) (oi := ?oyes1o) (v := ?oyes1v) ?oyes1h (by kernel_rfl) (by kernel_rfl) (by kernel_rfl) ?oyes1q ?oyes1y hHeld ?oyes1r
  case oyes1h => (simp only [List.getElem?_toArray, List.getElem?_cons_zero]; rfl)
  case oyes1q => exact fun _ _ _ h => h
  case oyes1y => (refine Or.inl ⟨by first | kernel_rfl | rfl, ?_⟩; intro w hSw; (try dsimp only at hSw); go_simp <;> (try with_reducible rfl))
  try simp only [Act.put, List.setIfInBounds_toArray, List.set_cons_zero, List.set_cons_succ]
  refine wpAnyH_take (i := 2) (oi := ?oyes2o) (v := ?oyes2v) ?oyes2h (by kernel_rfl) (by kernel_rfl) (by kernel_rfl) ?oyes2q ?oyes2y hHeld ?oyes2r
  case oyes2h => (simp only [List.getElem?_toArray, List.getElem?_cons_succ, List.getElem?_cons_zero]; rfl)
  case oyes2q => exact fun _ _ _ h => h
  case oyes2y => (refine Or.inl ⟨by first | kernel_rfl | rfl, ?_⟩; intro w hSw; (try dsimp only at hSw); go_simp <;> (try with_reducible rfl))
  try simp only [Act.put, List.setIfInBounds_toArray, List.set_cons_zero, List.set_cons_succ]
  refine wpAnyH_take (i := 4) (oi := ?oyes3o) (v := ?oyes3v) ?oyes3h (by kernel_rfl) (by kernel_rfl) (by kernel_rfl) ?oyes3q ?oyes3y hHeld ?oyes3r
  case oyes3h => (simp only [List.getElem?_toArray, List.getElem?_cons_succ, List.getElem?_cons_zero]; rfl)
  case oyes3q => exact fun _ _ _ h => h
  case oyes3y => (refine Or.inl ⟨by first | kernel_rfl | rfl, ?_⟩; intro w hSw; (try dsimp only at hSw); go_simp <;> (try with_reducible rfl))
  try simp only [Act.put, List.setIfInBounds_toArray, List.set_cons_zero, List.set_cons_succ]
  refine wpAnyH_ready (rs := [1]) (by kernel_rfl) (by simp) ?_
  refine (AllReadyH.cons rfl (fun K hK => ?_) AllReadyH.nil)
  go_simp
  ((with_reducible refine (k2 _ R1.drew.ra).mono ?_); rintro e w3 ⟨rfl, hR, hB⟩; have R2 := R1.drew.but hB hR; have Hx := R2.at_; obtain ⟨⟨x0, x1, x2, x3, x4, x5, x6, x7, x8⟩, y0, y1, y2, y3, y4, y5, y6, y7, y8⟩ := Hx; dsimp only at x0 x1 x2 x3 x4 x5 x6 x7 x8; have hfn := R2.fn)
  refine hK.out _ _ (R2.fn) (fun hHeld => ?_)
  clear hK K
  try simp only [Act.put, List.setIfInBounds_toArray, List.set_cons_zero, List.set_cons_succ]
  refine wpAnyH_take (i := 6) (oi := ?oyes4o) (v := ?oyes4v) ?oyes4h (by kernel_rfl) (by kernel_rfl) (by kernel_rfl) ?oyes4q ?oyes4y hHeld ?oyes4r
  case oyes4h => (simp only [List.getElem?_toArray, List.getElem?_cons_succ, List.getElem?_cons_zero]; rfl)
  case oyes4q => exact fun _ _ _ h => h
  case oyes4y => (refine Or.inl ⟨by first | kernel_rfl | rfl, ?_⟩; intro w hSw; (try dsimp only at hSw); go_simp <;> (try with_reducible rfl))
  try simp only [Act.put, List.setIfInBounds_toArray, List.set_cons_zero, List.set_cons_succ]
  refine wpAnyH_ready (rs := [3]) (by kernel_rfl) (by simp) ?_
  refine (AllReadyH.cons rfl (fun K hK => ?_) AllReadyH.nil)
  go_simp
  ((with_reducible refine (k3 _ R2.ra).mono ?_); rintro e w4 ⟨rfl, hR, hB⟩; have R3 := R2.but hB hR; have Hx := R3.at_; obtain ⟨⟨x0, x1, x2, x3, x4, x5, x6, x7, x8⟩, y0, y1, y2, y3, y4, y5, y6, y7, y8⟩ := Hx; dsimp only at x0 x1 x2 x3 x4 x5 x6 x7 x8; have hfn := R3.fn)
  refine hK.out _ _ (R3.fn) (fun hHeld => ?_)
  clear hK K
  try simp only [Act.put, List.setIfInBounds_toArray, List.set_cons_zero, List.set_cons_succ]
  refine wpAnyH_ready (rs := [5]) (by kernel_rfl) (by simp) ?_
  refine (AllReadyH.cons rfl (fun K hK => ?_) AllReadyH.nil)
  go_simp
  ((with_reducible refine (k5 _ R3.ra).mono ?_); rintro e w5 ⟨rfl, hR, hB⟩; have R4 := R3.but hB hR; have Hx := R4.at_; obtain ⟨⟨x0, x1, x2, x3, x4, x5, x6, x7, x8⟩, y0, y1, y2, y3, y4, y5, y6, y7, y8⟩ := Hx; dsimp only at x0 x1 x2 x3 x4 x5 x6 x7 x8; have hfn := R4.fn)
  refine hK.out _ _ (R4.fn) (fun hHeld => ?_)
  clear hK K
  try simp only [Act.put, List.setIfInBounds_toArray, List.set_cons_zero, List.set_cons_succ]
  refine wpAnyH_ready (rs := [7]) (by kernel_rfl) (by simp) ?_
  refine (AllReadyH.cons rfl (fun K hK => ?_) AllReadyH.nil)
  go_simp
  skip
  refine hK.out _ _ ((R4.set4 x).fn) (fun hHeld => ?_)
  clear hK K
  try simp only [Act.put, List.setIfInBounds_toArray, List.set_cons_zero, List.set_cons_succ]
  refine wpAnyH_take (i := 8) (oi := ?oyes5o) (v := ?oyes5v) ?oyes5h (by kernel_rfl) (by kernel_rfl) (by kernel_rfl) ?oyes5q ?oyes5y hHeld ?oyes5r
  case oyes5h => (simp only [List.getElem?_toArray, List.getElem?_cons_succ, List.getElem?_cons_zero]; rfl)
  case oyes5q => exact fun _ _ _ h => h
  case oyes5y => (refine Or.inl ⟨by first | kernel_rfl | rfl, ?_⟩; intro w hSw; (try dsimp only at hSw); go_simp <;> (try with_reducible rfl))
  try simp only [Act.put, List.setIfInBounds_toArray, List.set_cons_zero, List.set_cons_succ]
  refine wpAnyH_ready (rs := [9]) (by kernel_rfl) (by simp) ?_
  refine (AllReadyH.cons rfl (fun K hK => ?_) AllReadyH.nil)
  go_simp
  skip
  refine hK.out _ _ (((R4.set4 x).set2 t).fn) (fun hHeld => ?_)
  clear hK K
  try simp only [Act.put, List.setIfInBounds_toArray, List.set_cons_zero, List.set_cons_succ]
  refine wpAnyH_take (i := 10) (oi := ?oyes6o) (v := ?oyes6v) ?oyes6h (by kernel_rfl) (by kernel_rfl) (by kernel_rfl) ?oyes6q ?oyes6y hHeld ?oyes6r
  case oyes6h => (simp only [List.getElem?_toArray, List.getElem?_cons_succ, List.getElem?_cons_zero]; rfl)
  case oyes6q => exact fun _ _ _ h => h
  case oyes6y => (refine Or.inl ⟨by first | kernel_rfl | rfl, ?_⟩; intro w hSw; (try dsimp only at hSw); go_simp <;> (try with_reducible rfl))
  try simp only [Act.put, List.setIfInBounds_toArray, List.set_cons_zero, List.set_cons_succ]
  refine wpAnyH_ready (rs := [11]) (by kernel_rfl) (by simp) ?_
  refine (AllReadyH.cons rfl (fun K hK => ?_) AllReadyH.nil)
  go_simp
  skip
  refine hK.out _ _ ((((R4.set4 x).set2 t).set5 a).fn) (fun hHeld => ?_)
  clear hK K
  try simp only [Act.put, List.setIfInBounds_toArray, List.set_cons_zero, List.set_cons_succ]
  refine wpAnyH_done (by kernel_rfl) ?_ _
  skip
  have RX := (((R4.set4 x).set2 t).set5 a)
  go_wp2_with (first
    | (go_at_call 60; (with_reducible refine (kL _ _ RX.ra RX.fn (by have := RX.far; omega)).mono ?_); rintro e w6 ⟨dv, rfl, hB6, hN6, hQ6, hR6⟩; obtain ⟨da, dc, rfl⟩ := hN6.slice; have hQ7 := own_up hQ6 (show w2.heap.size + 1 ≤ _ from RX.at_.room); have R6 := RX.but hB6 hR6; have R7 := R6.set8 l (.slice da l.length dc); have N7 := Nums.far hN6 hQ7 ⟨w2.heap.size, 8, none⟩ (.slice da l.length dc) (Nat.lt_succ_self _); have Hx := R6.at_; obtain ⟨⟨x0, x1, x2, x3, x4, x5, x6, x7, x8⟩, y0, y1, y2, y3, y4, y5, y6, y7, y8⟩ := Hx; dsimp only at x0 x1 x2 x3 x4 x5 x6 x7 x8; have hfn := R6.fn; have Ho7 := R7.out; obtain ⟨⟨zx0, zx1, zx2, zx3, zx4, zx5, zx6, zx7, zx8⟩, zy0, zy1, zy2, zy3, zy4, zy5, zy6, zy7, zy8⟩ := Ho7; dsimp only [Rec.zero] at zx0 zx1 zx2 zx3 zx4 zx5 zx6 zx7 zx8)
    | (go_at_call 62; (with_reducible refine (kE _ R7.ra).mono ?_); rintro e w7 ⟨rfl, rfl⟩; have Hx := R7.at_; obtain ⟨⟨x0, x1, x2, x3, x4, x5, x6, x7, x8⟩, y0, y1, y2, y3, y4, y5, y6, y7, y8⟩ := Hx; dsimp only at x0 x1 x2 x3 x4 x5 x6 x7 x8; have hfn := R7.fn)
    | (go_at_call 16; (with_reducible refine (kC (.slice da l.length dc) _ N7).mono ?_); rintro e w8 ⟨rfl, hb8⟩; have R8 := R7.below hb8; have N8 := N7.later hb8; have Hx := R8.at_; obtain ⟨⟨x0, x1, x2, x3, x4, x5, x6, x7, x8⟩, y0, y1, y2, y3, y4, y5, y6, y7, y8⟩ := Hx; dsimp only at x0 x1 x2 x3 x4 x5 x6 x7 x8; have hfn := R8.fn; have Ho8 := R8.out; obtain ⟨⟨zx0, zx1, zx2, zx3, zx4, zx5, zx6, zx7, zx8⟩, zy0, zy1, zy2, zy3, zy4, zy5, zy6, zy7, zy8⟩ := Ho8; dsimp only [Rec.zero] at zx0 zx1 zx2 zx3 zx4 zx5 zx6 zx7 zx8))
  refine bodyPost_ret (v := .tuple #[recV ⟨2, ⟨#[]⟩, t, 0, x, a, l⟩ (.slice da l.length dc), .int .i64 0]) (by unfold recV; simp [results, Try.results20, go_sem, zx0, zx1, zx2, zx3, zx4, zx5, zx6, zx7, zx8]; try rfl) rfl (read6_some HQ.out ?_ ?_)
  · exact nine_far N8 hQ7 _ (by have := R8.far; have := R8.qe; omega) _ _ _ _ _ _ _ _ _
  · exact nine_set R8.bel _ (Nat.le_refl _) _ _ _ _ _ _ _ _ _

set_option maxHeartbeats 8000000 in
theorem pread6_n_bad (S : ByteArray) (r1 r6 : ByteArray) (b1 b6 : Bool) (k : Int) (k1 : k ≠ 1) (k2 : k ≠ 2) (l : List Int) (z : Int) (w : World) (hs : S.size ≤ 100000) (h1 : smallQ S false 2 = (k, r1, b1))  (h6 : tvN r1 b1 = (l, r6, b6)) (hz : endQ r6 b6 = z) (hb : (z != 0) = true) : Calls Try.prog 20 #[.string S] w (Read6Done S w) := by
  have hmf := makeFunc_run
  obtain ⟨i1, -, j1⟩ := smallQ_inv h1 (fun e => by cases e)
  have hk2 := smallQ_range h1 (by omega)
  have hq := recQ_kind h1 k1 k2
  have kk1 : (k == 1) = false := by simpa using k1
  have kk2 : (k == 2) = false := by simpa using k2
  have kS := fun W h => small_is (w.heap.size + 1) S r1 false b1 k 2 W (by unfold maxLen; omega) (by omega) (Lib.hid h1) h
  have kL := fun W q h hq hne => listn_is (w.heap.size + 1) q r1 r6 b1 b6 l W (by omega) (Lib.hid h6) (fun e => (i1 e).1) h hq hne
  have kE := fun W h => end_is (w.heap.size + 1) r6 b6 z W h (Lib.hid hz)
  have hfirst := fun w1 w2 hA1 hb1 hB2 hR => RdQ.first (w := w) (w1 := w1) (w2 := w2) (S := S) (r := r1) (b := b1) k hA1 hb1 hB2 hR
  have HQ := Lib.hid hq
  clear hq i1 j1 h1 h6 hz hs hk2 k1 k2
  go_enter Try.func20, Try.ntmps20
  go_wp2_with (first
    | (go_at_call 56; (with_reducible refine (read_is _ _).mono ?_); rintro e w1 ⟨rfl, hA1, hb1, hz1⟩; (have hA1 : RA w1 (w.heap.size + 1) S false := by simpa using hA1); have hA2 := hA1.below ((Below.refl _ _).alloc (Nat.le_refl _) (.cells #[.func (.func 57) #[.pointer (some ⟨w.heap.size + 1, 0, none⟩)] #[]] 70)); (have hfn : (w1.alloc (.cells #[.func (.func 57) #[.pointer (some ⟨w.heap.size + 1, 0, none⟩)] #[]] 70)).cell? ⟨w1.heap.size, 0, none⟩ = some (.func (.func 57) #[.pointer (some ⟨w.heap.size + 1, 0, none⟩)] #[]) := by simp [go_sem]))
    | (go_at_call 57; (with_reducible refine (kS _ hA2).mono ?_); rintro e w2 ⟨rfl, hR2, hB2⟩; have R1 := hfirst w1 w2 hA1 hb1 hB2 hR2; have Hx := R1.at_; obtain ⟨⟨x0, x1, x2, x3, x4, x5, x6, x7, x8⟩, y0, y1, y2, y3, y4, y5, y6, y7, y8⟩ := Hx; dsimp only at x0 x1 x2 x3 x4 x5 x6 x7 x8; have hfn := R1.fn))
  have RX := R1
  go_wp2_with (first
    | (go_at_call 60; (with_reducible refine (kL _ _ RX.ra RX.fn (by have := RX.far; omega)).mono ?_); rintro e w6 ⟨dv, rfl, hB6, hN6, hQ6, hR6⟩; obtain ⟨da, dc, rfl⟩ := hN6.slice; have hQ7 := own_up hQ6 (show w2.heap.size + 1 ≤ _ from RX.at_.room); have R6 := RX.but hB6 hR6; have R7 := R6.set8 l (.slice da l.length dc); have N7 := Nums.far hN6 hQ7 ⟨w2.heap.size, 8, none⟩ (.slice da l.length dc) (Nat.lt_succ_self _); have Hx := R6.at_; obtain ⟨⟨x0, x1, x2, x3, x4, x5, x6, x7, x8⟩, y0, y1, y2, y3, y4, y5, y6, y7, y8⟩ := Hx; dsimp only at x0 x1 x2 x3 x4 x5 x6 x7 x8; have hfn := R6.fn; have Ho7 := R7.out; obtain ⟨⟨zx0, zx1, zx2, zx3, zx4, zx5, zx6, zx7, zx8⟩, zy0, zy1, zy2, zy3, zy4, zy5, zy6, zy7, zy8⟩ := Ho7; dsimp only [Rec.zero] at zx0 zx1 zx2 zx3 zx4 zx5 zx6 zx7 zx8)
    | (go_at_call 62; (with_reducible refine (kE _ R7.ra).mono ?_); rintro e w7 ⟨rfl, rfl⟩; have Hx := R7.at_; obtain ⟨⟨x0, x1, x2, x3, x4, x5, x6, x7, x8⟩, y0, y1, y2, y3, y4, y5, y6, y7, y8⟩ := Hx; dsimp only at x0 x1 x2 x3 x4 x5 x6 x7 x8; have hfn := R7.fn))
  refine bodyPost_ret (v := .tuple #[recV Rec.zero (.slice none 0 0), .int .i64 10]) (by unfold recV Rec.zero; simp [results, Try.results20, go_sem, zx0, zx1, zx2, zx3, zx4, zx5, zx6, zx7, zx8]; try rfl) rfl (read6_none HQ.out ?_)
  exact nine_set R7.bel _ (Nat.le_refl _) _ _ _ _ _ _ _ _ _

set_option maxHeartbeats 8000000 in
theorem pread6_n_no (S : ByteArray) (r1 r6 : ByteArray) (b1 b6 : Bool) (k : Int) (k1 : k ≠ 1) (k2 : k ≠ 2) (l : List Int) (z : Int) (w : World) (hs : S.size ≤ 100000) (h1 : smallQ S false 2 = (k, r1, b1))  (h6 : tvN r1 b1 = (l, r6, b6)) (hz : endQ r6 b6 = z) (hb : z = 0) : Calls Try.prog 20 #[.string S] w (Read6Done S w) := by
  have hmf := makeFunc_run
  obtain ⟨i1, -, j1⟩ := smallQ_inv h1 (fun e => by cases e)
  have hk2 := smallQ_range h1 (by omega)
  have hq := recQ_kind h1 k1 k2
  have kk1 : (k == 1) = false := by simpa using k1
  have kk2 : (k == 2) = false := by simpa using k2
  have kS := fun W h => small_is (w.heap.size + 1) S r1 false b1 k 2 W (by unfold maxLen; omega) (by omega) (Lib.hid h1) h
  have kL := fun W q h hq hne => listn_is (w.heap.size + 1) q r1 r6 b1 b6 l W (by omega) (Lib.hid h6) (fun e => (i1 e).1) h hq hne
  have kE := fun W h => end_is (w.heap.size + 1) r6 b6 z W h (Lib.hid hz)
  have ho : Rec.ok ⟨k, ⟨#[]⟩, 0, 0, 0, ⟨0, 0, 0⟩, l⟩ = false := Rec.ok_none k1 k2
  have hfit : Rec.fits ⟨k, ⟨#[]⟩, 0, 0, 0, ⟨0, 0, 0⟩, l⟩ := ⟨by dsimp only; omega, by show (⟨#[]⟩ : ByteArray).size ≤ _; decide, by simp, by simp, by simp, by simp⟩
  have kC := fun dv W h => check6_is ⟨k, ⟨#[]⟩, 0, 0, 0, ⟨0, 0, 0⟩, l⟩ dv W h hfit
  have he : Rec.err ⟨k, ⟨#[]⟩, 0, 0, 0, ⟨0, 0, 0⟩, l⟩ = 1 := Rec.err_no ho
  rw [he] at kC
  unfold recV at kC
  dsimp only at kC
  have hfirst := fun w1 w2 hA1 hb1 hB2 hR => RdQ.first (w := w) (w1 := w1) (w2 := w2) (S := S) (r := r1) (b := b1) k hA1 hb1 hB2 hR
  have HQ := Lib.hid hq
  subst hb
  clear hq i1 j1 h1 h6 hz hs hk2 k1 k2 hfit he ho
  go_enter Try.func20, Try.ntmps20
  go_wp2_with (first
    | (go_at_call 56; (with_reducible refine (read_is _ _).mono ?_); rintro e w1 ⟨rfl, hA1, hb1, hz1⟩; (have hA1 : RA w1 (w.heap.size + 1) S false := by simpa using hA1); have hA2 := hA1.below ((Below.refl _ _).alloc (Nat.le_refl _) (.cells #[.func (.func 57) #[.pointer (some ⟨w.heap.size + 1, 0, none⟩)] #[]] 70)); (have hfn : (w1.alloc (.cells #[.func (.func 57) #[.pointer (some ⟨w.heap.size + 1, 0, none⟩)] #[]] 70)).cell? ⟨w1.heap.size, 0, none⟩ = some (.func (.func 57) #[.pointer (some ⟨w.heap.size + 1, 0, none⟩)] #[]) := by simp [go_sem]))
    | (go_at_call 57; (with_reducible refine (kS _ hA2).mono ?_); rintro e w2 ⟨rfl, hR2, hB2⟩; have R1 := hfirst w1 w2 hA1 hb1 hB2 hR2; have Hx := R1.at_; obtain ⟨⟨x0, x1, x2, x3, x4, x5, x6, x7, x8⟩, y0, y1, y2, y3, y4, y5, y6, y7, y8⟩ := Hx; dsimp only at x0 x1 x2 x3 x4 x5 x6 x7 x8; have hfn := R1.fn))
  have RX := R1
  go_wp2_with (first
    | (go_at_call 60; (with_reducible refine (kL _ _ RX.ra RX.fn (by have := RX.far; omega)).mono ?_); rintro e w6 ⟨dv, rfl, hB6, hN6, hQ6, hR6⟩; obtain ⟨da, dc, rfl⟩ := hN6.slice; have hQ7 := own_up hQ6 (show w2.heap.size + 1 ≤ _ from RX.at_.room); have R6 := RX.but hB6 hR6; have R7 := R6.set8 l (.slice da l.length dc); have N7 := Nums.far hN6 hQ7 ⟨w2.heap.size, 8, none⟩ (.slice da l.length dc) (Nat.lt_succ_self _); have Hx := R6.at_; obtain ⟨⟨x0, x1, x2, x3, x4, x5, x6, x7, x8⟩, y0, y1, y2, y3, y4, y5, y6, y7, y8⟩ := Hx; dsimp only at x0 x1 x2 x3 x4 x5 x6 x7 x8; have hfn := R6.fn; have Ho7 := R7.out; obtain ⟨⟨zx0, zx1, zx2, zx3, zx4, zx5, zx6, zx7, zx8⟩, zy0, zy1, zy2, zy3, zy4, zy5, zy6, zy7, zy8⟩ := Ho7; dsimp only [Rec.zero] at zx0 zx1 zx2 zx3 zx4 zx5 zx6 zx7 zx8)
    | (go_at_call 62; (with_reducible refine (kE _ R7.ra).mono ?_); rintro e w7 ⟨rfl, rfl⟩; have Hx := R7.at_; obtain ⟨⟨x0, x1, x2, x3, x4, x5, x6, x7, x8⟩, y0, y1, y2, y3, y4, y5, y6, y7, y8⟩ := Hx; dsimp only at x0 x1 x2 x3 x4 x5 x6 x7 x8; have hfn := R7.fn)
    | (go_at_call 16; (with_reducible refine (kC (.slice da l.length dc) _ N7).mono ?_); rintro e w8 ⟨rfl, hb8⟩; have R8 := R7.below hb8; have N8 := N7.later hb8; have Hx := R8.at_; obtain ⟨⟨x0, x1, x2, x3, x4, x5, x6, x7, x8⟩, y0, y1, y2, y3, y4, y5, y6, y7, y8⟩ := Hx; dsimp only at x0 x1 x2 x3 x4 x5 x6 x7 x8; have hfn := R8.fn; have Ho8 := R8.out; obtain ⟨⟨zx0, zx1, zx2, zx3, zx4, zx5, zx6, zx7, zx8⟩, zy0, zy1, zy2, zy3, zy4, zy5, zy6, zy7, zy8⟩ := Ho8; dsimp only [Rec.zero] at zx0 zx1 zx2 zx3 zx4 zx5 zx6 zx7 zx8))
  refine bodyPost_ret (v := .tuple #[recV Rec.zero (.slice none 0 0), .int .i64 10]) (by unfold recV Rec.zero; simp [results, Try.results20, go_sem, zx0, zx1, zx2, zx3, zx4, zx5, zx6, zx7, zx8]; try rfl) rfl (read6_none HQ.out ?_)
  exact nine_set R8.bel _ (Nat.le_refl _) _ _ _ _ _ _ _ _ _

theorem pread6_is (S : ByteArray) (w : World) (hs : S.size ≤ 100000) : Calls Try.prog 20 #[.string S] w (Read6Done S w) := by
  obtain ⟨⟨k, r1, b1⟩, h1⟩ : ∃ x, smallQ S false 2 = x := ⟨_, rfl⟩
  by_cases k1 : k = 1
  · subst k1
    obtain ⟨⟨p, r5, b5⟩, hp⟩ : ∃ x, ptR r1 b1 = x := ⟨_, rfl⟩
    obtain ⟨⟨l, r6, b6⟩, h6⟩ : ∃ x, tvN r5 b5 = x := ⟨_, rfl⟩
    obtain ⟨z, hz⟩ : ∃ z, endQ r6 b6 = z := ⟨_, rfl⟩
    by_cases hb : z = 0
    · cases ho : Rec.ok ⟨1, p.s, p.t, p.v, 0, p.st, l⟩ with
      | true => exact pread6_s_yes S r1 r5 r6 b1 b5 b6 p l z w hs h1 hp h6 hz hb ho
      | false => exact pread6_s_no S r1 r5 r6 b1 b5 b6 p l z w hs h1 hp h6 hz hb ho
    · exact pread6_s_bad S r1 r5 r6 b1 b5 b6 p l z w hs h1 hp h6 hz (by simp [bne, hb])
  · by_cases k2 : k = 2
    · subst k2
      obtain ⟨⟨x, r2, b2⟩, h2⟩ : ∃ x, smallQ r1 b1 3 = x := ⟨_, rfl⟩
      obtain ⟨⟨t, r3, b3⟩, h3⟩ : ∃ x, smallQ r2 b2 1099511627776 = x := ⟨_, rfl⟩
      obtain ⟨⟨a, r5, b5⟩, h5⟩ : ∃ x, takeQ r3 b3 = x := ⟨_, rfl⟩
      obtain ⟨⟨l, r6, b6⟩, h6⟩ : ∃ x, tvN r5 b5 = x := ⟨_, rfl⟩
      obtain ⟨z, hz⟩ : ∃ z, endQ r6 b6 = z := ⟨_, rfl⟩
      by_cases hb : z = 0
      · cases ho : Rec.ok ⟨2, ⟨#[]⟩, t, 0, x, a, l⟩ with
        | true => exact pread6_c_yes S r1 r2 r3 r5 r6 b1 b2 b3 b5 b6 x t a l z w hs h1 h2 h3 h5 h6 hz hb ho
        | false => exact pread6_c_no S r1 r2 r3 r5 r6 b1 b2 b3 b5 b6 x t a l z w hs h1 h2 h3 h5 h6 hz hb ho
      · exact pread6_c_bad S r1 r2 r3 r5 r6 b1 b2 b3 b5 b6 x t a l z w hs h1 h2 h3 h5 h6 hz (by simp [bne, hb])
    · obtain ⟨⟨l, r6, b6⟩, h6⟩ : ∃ x, tvN r1 b1 = x := ⟨_, rfl⟩
      obtain ⟨z, hz⟩ : ∃ z, endQ r6 b6 = z := ⟨_, rfl⟩
      by_cases hb : z = 0
      · exact pread6_n_no S r1 r6 b1 b6 k k1 k2 l z w hs h1 h6 hz hb
      · exact pread6_n_bad S r1 r6 b1 b6 k k1 k2 l z w hs h1 h6 hz (by simp [bne, hb])
end Go.Proofs.Ytjckphmkhikpaaa
/- The contracts of the program's list of points and of ReadPoints. -/
set_option maxRecDepth 20000
namespace Go.Proofs.Ytjckphmkhikpaaa
open Go.RowKit Go.Proofs.Ytjckphmkhikpaaa.Vi Go.Proofs.Ytjckphmkhikpaaa.Mk

set_option maxHeartbeats 2000000 in
theorem rp1_is (d z : Nat) (r r' : ByteArray) (b b' : Bool) (p : Pt) (w : World) (hr : r.size ≤ 100000) (H : Hid (ptR r b = (p, r', b'))) (hi : b = true → r = ⟨#[]⟩) (h : RA w d r b) (hz : w.cell? ⟨z, 0, none⟩ = some (.pointer (some ⟨d, 0, none⟩))) :
    Calls Try.prog 70 #[.pointer (some ⟨z, 0, none⟩)] w (Took d (ptV p) r' b' w) := by
  have kt := fun w h => takep_is d r r' b b' p w hr H hi h
  have hd := h.room
  have hA0 := h.below ((Below.refl _ _).alloc (Nat.le_refl _) (.cells #[.string ⟨#[]⟩, .int .i64 0, .int .i64 0, .int .i64 0, .int .i64 0, .int .i64 0] 34))
  have hB0 := (But.refl d w).alloc (.cells #[.string ⟨#[]⟩, .int .i64 0, .int .i64 0, .int .i64 0, .int .i64 0, .int .i64 0] 34)
  have hP0 : PtW (w.alloc (.cells #[.string ⟨#[]⟩, .int .i64 0, .int .i64 0, .int .i64 0, .int .i64 0, .int .i64 0] 34)) w.heap.size ⟨⟨#[]⟩, 0, 0, ⟨0, 0, 0⟩⟩ := PtW.new w ⟨⟨#[]⟩, 0, 0, ⟨0, 0, 0⟩⟩
  have HD := Lib.hid hd
  have hzr := World.block_lt_of_cell? w _ hz
  have hzn : ¬ z = w.heap.size := by show ¬ z = w.heap.size; have : z < w.heap.size := hzr; omega
  have hz1 : (w.alloc (.cells #[.string ⟨#[]⟩, .int .i64 0, .int .i64 0, .int .i64 0, .int .i64 0, .int .i64 0] 34)).cell? ⟨z, 0, none⟩ = some (.pointer (some ⟨d, 0, none⟩)) := (((Below.refl w.heap.size w).alloc (Nat.le_refl _) _).cell (p := ⟨z, 0, none⟩) hzr).trans hz
  obtain ⟨s, t, v, ⟨c, si, q⟩⟩ := p
  unfold ptV at kt ⊢
  dsimp only at kt ⊢
  clear H hi hr h hd
  go_enter Try.func70, Try.ntmps70
  go_wp2_with (first
    | (go_at_call 58; (with_reducible refine (kt _ hA0).mono ?_); rintro e w4 ⟨rfl, hA4, hB4⟩; have hP4 := hP0.but hB4 (by have := HD.out; omega); obtain ⟨⟨z0, z1, z2, z3, z4, z5⟩, g0, g1, g2, g3, g4, g5⟩ := hP4; dsimp only at z0 z1 z2 z3 z4 z5))
  have h6 := six_at (Below.refl w.heap.size w4) w.heap.size (Nat.le_refl _) (.string s) (.int .i64 t) (.int .i64 v) (.int .i64 c) (.int .i64 si) (.int .i64 q)
  refine bodyPost_ret (v := .agg #[.string s, .int .i64 t, .int .i64 v, .int .i64 c, .int .i64 si, .int .i64 q]) (by simp [results, Try.results70, go_sem, z0, z1, z2, z3, z4, z5]; try rfl) rfl ⟨rfl, hA4.farB h6 HD.out, (hB0.trans hB4).ofB h6 (Nat.le_refl _)⟩

/-- What list's loop has read. -/
structure LsR (w wr : World) (d : Nat) (S : ByteArray) (o : Value) (k : Nat) : Prop where
  row : PRow wr w.heap.size o (outR S k)
  ra : RA wr d (stpR S k).1 (stpR S k).2
  bel : But d w wr
theorem LsR.len {w wr : World} {d : Nat} {S : ByteArray} {o : Value} {k : Nat} (R : LsR w wr d S o k) : ∃ a c, o = .slice a k c := by
  have := R.row.slice; rw [outR_len] at this; exact this
theorem owns6_but {w w' : World} {B d size n : Nat} {e : TypeId} {v : Value} {xs : List Value} (h : w.ownsRow B e size v n xs) (k : But d w w') (hd : d < B) : w'.ownsRow B e size v n xs := by
  obtain ⟨h1, h2⟩ := h
  refine ⟨h1, ?_⟩
  rcases h2 with h2 | ⟨g, cap, cur, e1, e2, e3, rest⟩
  · exact Or.inl h2
  · have hg : g < w.heap.size := (Array.getElem?_eq_some_iff.1 e3).1
    exact Or.inr ⟨g, cap, cur, e1, e2, (k.block g hg (by omega)).trans e3, rest⟩
/-- What list answers. -/
def LsDone (d : Nat) (S : ByteArray) (n : Nat) (w : World) (e : Ending) (w' : World) : Prop := ∃ v, e = .returned v ∧ LsR w w' d S v n
set_option maxHeartbeats 8000000 in
theorem listp_is (d z n : Nat) (S : ByteArray) (w : World) (hs : S.size ≤ 100000) (hn : (n : Int) = cntP S) (h : RA w d S false) (hz : w.cell? ⟨z, 0, none⟩ = some (.pointer (some ⟨d, 0, none⟩))) (hne : z ≠ d) :
    Calls Try.prog 69 #[.pointer (some ⟨d, 0, none⟩), .int .i64 1000, .func (.func 70) #[] #[.pointer (some ⟨z, 0, none⟩)]] w (LsDone d S n w) := by
  obtain ⟨i0, hi, hz0, hz1, hz2⟩ := info_parts infoP
  have hc := cntP_bounds S
  have hn1 : n ≤ 1000 := by omega
  have k1 := fun w h => small_is d S (stpR S 0).1 false (stpR S 0).2 (cntP S) 1000 w (by unfold maxLen; omega) (by omega) (Lib.hid (stpR_zero S)) h
  rw [← hn] at k1
  have hd := h.room
  have hzr := World.block_lt_of_cell? w _ hz
  have HN := Lib.hid hn
  have HZ := Lib.hid hz
  clear hc hn hz
  go_enter Try.func69, Try.ntmps69
  go_wp2_with (first
    | (go_at_call 57; (with_reducible refine (k1 _ h).mono ?_); rintro e w1 ⟨rfl, hA, hB⟩))
  have R0 := Lib.hid (show LsR w w1 d S (.slice none 0 0) 0 from ⟨PRow.nil _ _, hA, hB⟩)
  clear hA hB k1 h
  go_loopw [7, 11] (fun o i wr => ∃ k : Nat, k ≤ n ∧ i = .int .i64 (k : Int) ∧ LsR w wr d S o k) (fun _ i _ => n - (intOf i).toNat)
  case atStart => exact ⟨0, by omega, rfl, R0.out⟩
  case round =>
    obtain ⟨k, hk, rfl, R⟩ := hrel
    obtain ⟨a1, cc1, rfl⟩ := R.len
    clear R0
    by_cases hlt : k < n
    · have hlt2 : (k : Int) < (n : Int) := by omega
      have hzw := (R.bel.cell (p := ⟨z, 0, none⟩) hne hzr).trans HZ.out
      have k2 := rp1_is d z (stpR S k).1 (stpR S (k + 1)).1 (stpR S k).2 (stpR S (k + 1)).2 (pR S k) wr (by have := (stpR_inv S k).2; omega) (Lib.hid (stpR_step S k)) (stpR_inv S k).1 R.ra hzw
      have hrow : wr.ownsRow w.heap.size 34 6 (.slice a1 k cc1) k ((outR S k).flatMap cells6) := by have := R.row; unfold PRow at this; rw [outR_len] at this; exact this
      have HROW := Lib.hid hrow
      have HBEL := Lib.hid R.bel
      obtain ⟨p, hp⟩ : ∃ p, pR S k = p := ⟨_, rfl⟩
      rw [hp] at k2
      have HP := Lib.hid hp
      unfold ptV at k2
      clear R hrow hp hzw
      go_wp2_with (first
        | (go_at_call 70; (with_reducible refine k2.mono ?_); rintro e w2 ⟨rfl, hA2, hB2⟩; have hR := owns6_but HROW.out hB2 hd; have hb2 := HBEL.out.trans hB2; have hBr := hb2.size; have hown : ∀ q, (Value.slice a1 k cc1).ownBlock = some q → w.heap.size ≤ q := fun q hq => (World.ownsRow.lt hR q hq).1)
        | (at_builtin; refine wpList_append_own _ rfl _ _ 42 rfl w.heap.size 34 i0 (.agg #[.string ⟨#[]⟩, .int .i64 0, .int .i64 0, .int .i64 0, .int .i64 0, .int .i64 0]) 6 56 Try.underlying42 hi hz0 hz1 hz2 rfl (by decide) _ _ _ rfl (hR.alloc _) ⟨w2.heap.size, 0, none⟩ 1 1 (cells6 p) rfl rfl ?c1 ?c2 ?c3 ?c4 ?c5 ?_))
      case c1 =>
        intro j u hj
        match j, hj with
        | 0, hj | 1, hj | 2, hj | 3, hj | 4, hj | 5, hj => simp [cells6] at hj; subst hj; first | (simp [Addr.add]; done) | (simp; done)
      case c2 => intro u hu; simp [cells6] at hu; rcases hu with rfl | rfl | rfl | rfl | rfl | rfl <;> rfl
      case c3 => unfold maxLen; (try simp); omega
      case c4 => (try simp); omega
      case c5 => (try simp); omega
      intro v' w3 hown3 hgrow _
      have hB3 : Below w.heap.size w2 w3 := ((Below.refl w.heap.size w2).alloc hBr _).grown hgrow (by simp; omega) hown
      have hR3 : PRow w3 w.heap.size v' (outR S (k + 1)) := by
        unfold PRow
        rw [outR_succ, HP.out, List.length_append, List.flatMap_append, outR_len]
        simpa [cells6] using hown3
      have HR3 := Lib.hid (show LsR w w3 d S v' (k + 1) from ⟨hR3, hA2.farB hB3 hd, hb2.ofB hB3 (Nat.le_refl _)⟩)
      clear hown3 hgrow hR3 hB3 hR hA2 hB2 hb2 hown
      go_wp2
      go_roundw
      case rel => exact ⟨k + 1, by omega, by go_num, HR3.out⟩
      case measure => simp [intOf]; omega
    · obtain rfl : k = n := by omega
      have hlt2 : ¬ (k : Int) < (k : Int) := by omega
      have HR := Lib.hid R
      clear R
      go_wp2
      go_ret
      exact ⟨_, rfl, HR.out⟩

/-- What ReadPoints answers. -/
def RPDone (S : ByteArray) (w : World) (e : Ending) (w' : World) : Prop := ∃ v, e = .returned (.tuple #[v, .int .i64 (if (ptsQ S).isSome then 0 else 10)]) ∧ PRow w' w.heap.size v ((ptsQ S).getD []) ∧ Below w.heap.size w w'
theorem rp_none {S : ByteArray} {w w' : World} (h : ptsQ S = none) (hb : Below w.heap.size w w') : RPDone S w (.returned (.tuple #[.slice none 0 0, .int .i64 10])) w' := by
  unfold RPDone
  rw [h]
  exact ⟨_, rfl, PRow.nil _ _, hb⟩
theorem rp_some {S : ByteArray} {l : List Pt} {v : Value} {w w' : World} (h : ptsQ S = some l) (hr : PRow w' w.heap.size v l) (hb : Below w.heap.size w w') : RPDone S w (.returned (.tuple #[v, .int .i64 0])) w' := by
  unfold RPDone
  rw [h]
  exact ⟨_, rfl, hr, hb⟩
theorem PRow.mono {w : World} {B B' : Nat} {v : Value} {xs : List Pt} (h : PRow w B v xs) (hB : B' ≤ B) : PRow w B' v xs := by
  obtain ⟨h1, h2⟩ := h
  refine ⟨h1, ?_⟩
  rcases h2 with h2 | ⟨g, cap, cur, e1, e2, e3, rest⟩
  · exact Or.inl h2
  · exact Or.inr ⟨g, cap, cur, e1, by omega, e3, rest⟩
set_option maxHeartbeats 8000000 in
theorem readpoints_is (S : ByteArray) (w : World) (hs : S.size ≤ 100000) : Calls Try.prog 22 #[.string S] w (RPDone S w) := by
  have hmf := makeFunc_run
  have hc := cntP_bounds S
  obtain ⟨n, hn⟩ : ∃ n : Nat, (n : Int) = cntP S := ⟨(cntP S).toNat, by omega⟩
  have hn1 : n ≤ 1000 := by omega
  obtain ⟨en, hen⟩ : ∃ en, endQ (stpR S n).1 (stpR S n).2 = en := ⟨_, rfl⟩
  have k1 := fun W z h hz hne => listp_is w.heap.size z n S W hs hn h hz hne
  have k2 := fun W h => end_is w.heap.size (stpR S n).1 (stpR S n).2 en W h (Lib.hid hen)
  have HN := Lib.hid hn
  clear hc
  by_cases he : en = 0
  · subst he
    have HE := Lib.hid hen
    clear hen hn
    go_enter Try.func22, Try.ntmps22
    go_wp2_with (first
      | (go_at_call 56; (with_reducible refine (read_is _ _).mono ?_); rintro e w1 ⟨rfl, hA1, hb1, hz1⟩; have hA2 := hA1.below ((Below.refl _ _).alloc (Nat.le_refl _) (.cells #[.pointer (some ⟨w.heap.size, 0, none⟩)] 68)); have hB2 := bel_new hb1 (.cells #[.pointer (some ⟨w.heap.size, 0, none⟩)] 68); have hcz : (w1.alloc (.cells #[.pointer (some ⟨w.heap.size, 0, none⟩)] 68)).cell? ⟨w1.heap.size, 0, none⟩ = some (.pointer (some ⟨w.heap.size, 0, none⟩)) := by simp [go_sem])
      | (go_at_call 69; (with_reducible refine (k1 _ _ hA2 hcz (by omega)).mono ?_); rintro e w3 ⟨v, rfl, hR3⟩; obtain ⟨a5, c5, rfl⟩ := hR3.len; have hcz3 := (hR3.bel.cell (p := ⟨w1.heap.size, 0, none⟩) (by show w1.heap.size ≠ w.heap.size; omega) (World.block_lt_of_cell? _ _ hcz)).trans hcz)
      | (go_at_call 62; (with_reducible refine (k2 _ hR3.ra).mono ?_); rintro e w4 ⟨rfl, rfl⟩))
    have hB3 : Below w.heap.size w w3 := hB2.trans (hR3.bel.below (Nat.le_refl _) hB2.size)
    have HROW := Lib.hid (hR3.row.mono (B' := w.heap.size) hB2.size)
    have HP := Lib.hid hR3.row.pts
    have HB := Lib.hid hB3
    clear hA1 hb1 hz1 hA2 hB2 hcz hcz3 hR3 hB3 k1 k2
    go_loopw [18] (fun i wr => ∃ (k : Nat), k ≤ n ∧ i = .int .i64 (k : Int) ∧ Below w3.heap.size w3 wr ∧ Hid (∀ j, j < k → (pR S j).ok = true)) (fun i _ => n - (intOf i).toNat)
    case atStart => exact ⟨0, by omega, rfl, Below.refl _ _, Lib.hid fun j hj => absurd hj (Nat.not_lt_zero _)⟩
    case round =>
      obtain ⟨k, hk, rfl, hB, hall⟩ := hrel
      by_cases hlt : k < n
      · have hlti : (k : Int) < (n : Int) := by omega
        rcases HP.out.at_ with hl0 | ⟨b, off, rfl, hbw, hcc⟩
        · have := outR_len S n; rw [hl0] at this; simp at this; omega
        · have hA := (hcc k (by rw [outR_len]; exact hlt)).below hB hbw
          rw [outR_at] at hA
          have hsz := pR_size S k
          have HNO := Lib.hid (fun (h : (pR S k).ok = false) => ptsQ_no_ok HN.out hlt h)
          have HGO := Lib.hid (fun (h : (pR S k).ok = true) => show ∀ j, j < k + 1 → (pR S j).ok = true from fun j hjk => by
            by_cases e : j = k
            · subst e; exact h
            · exact hall.out j (by omega))
          obtain ⟨p, hp⟩ : ∃ p, pR S k = p := ⟨_, rfl⟩
          rw [hp] at hA hsz HNO HGO
          obtain ⟨c0, c1, c2, c3, c4, c6⟩ := hA
          have kc := fun w => checkp_is p w (by omega)
          unfold Pt.err at kc
          unfold ptV at kc
          have HBH := Lib.hid hB
          clear hcc hp hall hB hsz
          cases hok : p.ok with
          | true =>
            have HH := Lib.hid (HGO.out hok)
            rw [hok] at kc
            clear HGO HNO hok
            go_wp2_with (go_at_call 33; (with_reducible refine (kc _).mono ?_); rintro e w1 ⟨rfl, hb1⟩)
            go_roundw
            case rel => exact ⟨k + 1, by omega, by go_num, HBH.out.trans ((((Below.refl wr.heap.size wr).alloc (Nat.le_refl _) _).trans (hb1.mono (by simp))).mono HBH.out.size), HH⟩
            case measure => simp [intOf]; omega
          | false =>
            have HH := Lib.hid (HNO.out hok)
            rw [hok] at kc
            clear HGO HNO hok
            go_wp2_with (go_at_call 33; (with_reducible refine (kc _).mono ?_); rintro e w1 ⟨rfl, hb1⟩)
            go_ret2
            exact rp_none HH.out (HB.out.trans ((HBH.out.trans ((((Below.refl wr.heap.size wr).alloc (Nat.le_refl _) _).trans (hb1.mono (by simp))).mono HBH.out.size)).mono HB.out.size))
      · have hlti : ¬ (k : Int) < (n : Int) := by omega
        have HH := Lib.hid (ptsQ_yes HN.out HE.out fun j hj => hall.out j (by omega))
        have HBH := Lib.hid hB
        clear hall hB
        go_wp2
        go_ret2
        exact rp_some HH.out (HROW.out.later HBH.out) (HB.out.trans (HBH.out.mono HB.out.size))
  · have HE := Lib.hid (ptsQ_no_end hn (by rw [hen]; exact he))
    have hne : (en == 0) = false := by simpa using he
    have hnn : (en != 0) = true := by simpa using he
    clear hen hn he
    go_enter Try.func22, Try.ntmps22
    go_wp2_with (first
      | (go_at_call 56; (with_reducible refine (read_is _ _).mono ?_); rintro e w1 ⟨rfl, hA1, hb1, hz1⟩; have hA2 := hA1.below ((Below.refl _ _).alloc (Nat.le_refl _) (.cells #[.pointer (some ⟨w.heap.size, 0, none⟩)] 68)); have hB2 := bel_new hb1 (.cells #[.pointer (some ⟨w.heap.size, 0, none⟩)] 68); have hcz : (w1.alloc (.cells #[.pointer (some ⟨w.heap.size, 0, none⟩)] 68)).cell? ⟨w1.heap.size, 0, none⟩ = some (.pointer (some ⟨w.heap.size, 0, none⟩)) := by simp [go_sem])
      | (go_at_call 69; (with_reducible refine (k1 _ _ hA2 hcz (by omega)).mono ?_); rintro e w3 ⟨v, rfl, hR3⟩; obtain ⟨a5, c5, rfl⟩ := hR3.len; have hcz3 := (hR3.bel.cell (p := ⟨w1.heap.size, 0, none⟩) (by show w1.heap.size ≠ w.heap.size; omega) (World.block_lt_of_cell? _ _ hcz)).trans hcz)
      | (go_at_call 62; (with_reducible refine (k2 _ hR3.ra).mono ?_); rintro e w4 ⟨rfl, rfl⟩))
    go_ret2
    exact rp_none HE.out (hB2.trans (hR3.bel.below (Nat.le_refl _) hB2.size))
end Go.Proofs.Ytjckphmkhikpaaa
/- The contract of the document's SamePoints. -/
set_option maxRecDepth 20000
namespace Go.Proofs.Ytjckphmkhikpaaa
open Go.RowKit Go.Proofs.Ytjckphmkhikpaaa.Vi Go.Proofs.Ytjckphmkhikpaaa.Mk

def Pt.same (a b : Pt) : Bool := decide (a.s = b.s) && (decide (a.t = b.t) && (decide (a.v = b.v) && decide (a.st = b.st)))
theorem Pt.same_iff {a b : Pt} : a.same b = true ↔ a = b := by
  obtain ⟨s1, t1, v1, x1⟩ := a
  obtain ⟨s2, t2, v2, x2⟩ := b
  simp [Pt.same]
instance : DecidableEq Pt := fun a b => decidable_of_iff (a.same b = true) Pt.same_iff
theorem eql_run6 (a b : Pt) (w : World) : (binOp .eql 34 (ptV a) (ptV b)).run Try.prog w = .ok (.bool (a.same b)) w := by
  obtain ⟨s1, t1, v1, c1, n1, q1⟩ := a
  obtain ⟨s2, t2, v2, c2, n2, q2⟩ := b
  have e : decide (St.mk c1 n1 q1 = St.mk c2 n2 q2) = (decide (c1 = c2) && (decide (n1 = n2) && decide (q1 = q2))) := by
    rw [Bool.eq_iff_iff]; simp
  unfold Pt.same ptV
  dsimp only
  rw [e]
  by_cases e1 : s1 = s2
  · have f1 := seq_eq e1
    by_cases e2 : t1 = t2
    · by_cases e3 : v1 = v2
      · by_cases e4 : c1 = c2
        · by_cases e5 : n1 = n2
          · by_cases e6 : q1 = q2
            · subst e1 e2 e3 e4 e5 e6; simp [go_sem]
            · have f6 : (q1 == q2) = false := by simpa using e6
              subst e1 e2 e3 e4 e5; simp [go_sem, e6, f6]
          · have f5 : (n1 == n2) = false := by simpa using e5
            subst e1 e2 e3 e4; simp [go_sem, e5, f5]
        · have f4 : (c1 == c2) = false := by simpa using e4
          subst e1 e2 e3; simp [go_sem, e4, f4]
      · have f3 : (v1 == v2) = false := by simpa using e3
        subst e1 e2; simp [go_sem, e3, f3]
    · have f2 : (t1 == t2) = false := by simpa using e2
      subst e1; simp [go_sem, e2, f2]
  · have f1 := seq_ne e1
    simp [go_sem, e1, f1]
theorem neq_run6 (a b : Pt) (w : World) : (binOp .neq 34 (ptV a) (ptV b)).run Try.prog w = .ok (.bool (!(a.same b))) w := by
  obtain ⟨s1, t1, v1, c1, n1, q1⟩ := a
  obtain ⟨s2, t2, v2, c2, n2, q2⟩ := b
  have e : decide (St.mk c1 n1 q1 = St.mk c2 n2 q2) = (decide (c1 = c2) && (decide (n1 = n2) && decide (q1 = q2))) := by
    rw [Bool.eq_iff_iff]; simp
  unfold Pt.same ptV
  dsimp only
  rw [e]
  by_cases e1 : s1 = s2
  · have f1 := seq_eq e1
    by_cases e2 : t1 = t2
    · by_cases e3 : v1 = v2
      · by_cases e4 : c1 = c2
        · by_cases e5 : n1 = n2
          · by_cases e6 : q1 = q2
            · subst e1 e2 e3 e4 e5 e6; simp [go_sem]
            · have f6 : (q1 == q2) = false := by simpa using e6
              subst e1 e2 e3 e4 e5; simp [go_sem, e6, f6]
          · have f5 : (n1 == n2) = false := by simpa using e5
            subst e1 e2 e3 e4; simp [go_sem, e5, f5]
        · have f4 : (c1 == c2) = false := by simpa using e4
          subst e1 e2 e3; simp [go_sem, e4, f4]
      · have f3 : (v1 == v2) = false := by simpa using e3
        subst e1 e2; simp [go_sem, e3, f3]
    · have f2 : (t1 == t2) = false := by simpa using e2
      subst e1; simp [go_sem, e2, f2]
  · have f1 := seq_ne e1
    simp [go_sem, e1, f1]
/-- Two lists are the same. -/
def sameP (a b : List Pt) : Bool := decide (a = b)

set_option maxHeartbeats 2000000 in
theorem rsamep_is (a0 b0 : Option Addr) (ca cb : Nat) (a b : List Pt) (z : Bool) (w : World) (ha : Pts w w.heap.size a0 a) (hb : Pts w w.heap.size b0 b) (hla : a.length ≤ 9223372036854775807) (hlb : b.length ≤ 9223372036854775807) (H : Hid (sameP a b = z)) : Calls Try.prog 25 #[.slice a0 a.length ca, .slice b0 b.length cb] w fun e w' => e = .returned (.bool z) ∧ Below w.heap.size w w' := by
  by_cases hl : a.length = b.length
  · have hli : ((a.length : Int) == (b.length : Int)) = true := by rw [beq_iff_eq]; omega
    have hln : ((a.length : Int) != (b.length : Int)) = false := by simp [bne, hli]
    have HL := Lib.hid hl
    clear hl
    go_enter Try.func25, Try.ntmps25
    go_wp2
    go_loopw [5] (fun i wr => ∃ (k : Nat), k ≤ a.length ∧ i = .int .i64 (k : Int) ∧ Below w.heap.size w wr ∧ Hid (∀ j (h1 : j < a.length) (h2 : j < b.length), j < k → a[j] = b[j])) (fun i _ => a.length - (intOf i).toNat)
    case atStart => exact ⟨0, by omega, rfl, Below.refl _ _, Lib.hid fun j _ _ hj => absurd hj (Nat.not_lt_zero _)⟩
    case round =>
      obtain ⟨k, hk, rfl, hB, hall⟩ := hrel
      by_cases hlt : k < a.length
      · have hlti : (k : Int) < (a.length : Int) := by omega
        have hlb2 : k < b.length := by have := HL.out; omega
        have hltb : (k : Int) < (b.length : Int) := by omega
        rcases ha.at_ with rfl | ⟨p, o, rfl, hpw, hc⟩
        · simp at hlt
        · rcases hb.at_ with rfl | ⟨p2, o2, rfl, hpw2, hc2⟩
          · simp at hlb2
          · obtain ⟨x, hx⟩ : ∃ x, a[k] = x := ⟨_, rfl⟩
            obtain ⟨y, hy⟩ : ∃ y, b[k] = y := ⟨_, rfl⟩
            have g1 := hc k hlt
            have g2 := hc2 k hlb2
            rw [hx] at g1
            rw [hy] at g2
            have qn := fun w => neq_run6 x y w
            unfold ptV at qn
            have HNO := Lib.hid (fun (h : x.same y = false) => show false = z by
              rw [← H.out]; unfold sameP; symm; apply decide_eq_false
              intro he; subst he
              rw [hx] at hy; rw [Pt.same_iff.2 hy] at h; cases h)
            have HGO := Lib.hid (fun (h : x.same y = true) => show ∀ j (h1 : j < a.length) (h2 : j < b.length), j < k + 1 → a[j] = b[j] from fun j h1 h2 hj => by
              by_cases e : j = k
              · subst e; rw [hx, hy]; exact Pt.same_iff.1 h
              · exact hall.out j h1 h2 (by omega))
            obtain ⟨c0, c1, c2, c3, c4, c5⟩ := g1.below hB hpw
            obtain ⟨d0, d1, d2, d3, d4, d5⟩ := g2.below hB hpw2
            clear g1 g2 hc hc2 hall hx hy
            cases hs : x.same y with
            | true =>
              rw [hs] at qn
              have HH := Lib.hid (HGO.out hs)
              clear HGO HNO hs
              go_wp2_with fail
              go_quiet (fail)
              go_wp2
              go_roundw
              case rel => exact ⟨k + 1, by omega, by go_num, by first | exact hB | exact hB.drew | exact below_drewN hB _, HH⟩
              case measure => simp [intOf]; omega
            | false =>
              rw [hs] at qn
              have HH := Lib.hid (HNO.out hs)
              clear HGO HNO hs
              go_wp2_with fail
              go_quiet (fail)
              go_wp2
              go_ret
              exact ⟨by rw [← HH.out]; rfl, by first | exact hB | exact hB.drew | exact below_drewN hB _⟩
      · have hlti : ¬ (k : Int) < (a.length : Int) := by omega
        have HH := Lib.hid (show true = z by
          rw [← H.out]; unfold sameP; symm; apply decide_eq_true
          exact List.ext_getElem HL.out fun j h1 h2 => hall.out j h1 h2 (by omega))
        go_wp2
        go_ret
        exact ⟨by rw [← HH.out]; rfl, hB⟩
  · have hli : ((a.length : Int) == (b.length : Int)) = false := by rw [beq_eq_false_iff_ne]; omega
    have hln : ((a.length : Int) != (b.length : Int)) = true := by simp [bne, hli]
    have HH := Lib.hid (show false = z by rw [← H.out]; unfold sameP; symm; apply decide_eq_false; intro he; exact hl (by rw [he]))
    clear hl
    go_enter Try.func25, Try.ntmps25
    go_wp2
    go_ret
    exact ⟨by rw [← HH.out]; rfl, Below.refl _ _⟩
end Go.Proofs.Ytjckphmkhikpaaa
/- Slices of bytes of the call's own: appended to, made of a text, made into a text. -/
set_option maxRecDepth 20000
namespace Go.Proofs.Ytjckphmkhikpaaa
open Go.RowKit Go.Proofs.Ytjckphmkhikpaaa.Vi

theorem add_off (b off j : Nat) : (⟨b, off, none⟩ : Addr).add j = ⟨b, off + j, none⟩ := by unfold Addr.add; split <;> simp_all
/-- v is a slice of the bytes xs; its row lies above B, may be written as far as its capacity goes, and v may begin anywhere in it. -/
def OwnB (w : World) (B : Nat) (v : Value) (xs : List UInt8) : Prop := (v = .slice none 0 0 ∧ xs = []) ∨ ∃ g off cap, v = .slice (some ⟨g, off, none⟩) xs.length cap ∧ B ≤ g ∧ g < w.heap.size ∧ xs.length ≤ cap ∧ cap ≤ maxLen ∧
  (∀ j, j < cap → (w.cell? ⟨g, off + j, none⟩).isSome = true ∧ w.frozen? ⟨g, off + j, none⟩ = false) ∧ ∀ j (h : j < xs.length), w.cell? ⟨g, off + j, none⟩ = some (bcellv xs[j])
theorem OwnB.nil (w : World) (B : Nat) : OwnB w B (.slice none 0 0) [] := Or.inl ⟨rfl, rfl⟩
theorem OwnB.slice {w : World} {B : Nat} {v : Value} {xs : List UInt8} (h : OwnB w B v xs) : ∃ a c, v = .slice a xs.length c := by
  rcases h with ⟨rfl, rfl⟩ | ⟨g, off, cap, h, _⟩
  · exact ⟨_, _, rfl⟩
  · exact ⟨_, _, h⟩
/-- Nothing of its row, nor below a number above it, has turned. -/
theorem OwnB.under {w w' : World} {B C : Nat} {v : Value} {xs : List UInt8} (h : OwnB w B v xs) (k : Below C w w') (hC : w.heap.size ≤ C) : OwnB w' B v xs := by
  rcases h with h | ⟨g, off, cap, h1, h2, h3, h4, h5, h6, h7⟩
  · exact Or.inl h
  · have hg : g < C := by omega
    exact Or.inr ⟨g, off, cap, h1, h2, Nat.lt_of_lt_of_le h3 k.size, h4, h5, fun j hj => ⟨by rw [k.cell (p := ⟨g, off + j, none⟩) hg]; exact (h6 j hj).1, by rw [k.frozen (p := ⟨g, off + j, none⟩) hg]; exact (h6 j hj).2⟩,
      fun j hj => (k.cell (p := ⟨g, off + j, none⟩) hg).trans (h7 j hj)⟩
theorem setCells_size (g : Nat) : ∀ (vs : List Value) (o : Nat) (w : World), (w.setCells g o vs).heap.size = w.heap.size ∧ (w.setCells g o vs).tape = w.tape
  | [], _, _ => ⟨rfl, rfl⟩
  | v :: r, o, w => by
    obtain ⟨h1, h2⟩ := setCells_size g r (o + 1) (w.setCell ⟨g, o, none⟩ v)
    exact ⟨h1.trans (by simp), h2.trans (by rfl)⟩
/-- A text's bytes appended to it. -/
theorem OwnB.append {w : World} {B : Nat} {v : Value} {xs : List UInt8} (h : OwnB w B v xs) (hB : B ≤ w.heap.size) (s : ByteArray) (hs : xs.length + s.size ≤ 100000000) (ty : TypeId) :
    ∃ v' w', (Builtin.append_ #[86, 9] ty #[v, .string s]).run Try.prog w = .ok v' w' ∧ OwnB w' B v' (xs ++ s.data.toList) ∧ Below B w w' ∧ (∀ p : Addr, p.block < B → w'.cell? p = w.cell? p ∧ w'.frozen? p = w.frozen? p) := by
  obtain ⟨i0, hi, hz0, hz1, hz2⟩ := info_parts infoB
  have fin : ∀ {v' w'}, (Builtin.append_ #[86, 9] ty #[v, .string s]).run Try.prog w = .ok v' w' → OwnB w' B v' (xs ++ s.data.toList) → Below B w w' →
      ∃ v' w', (Builtin.append_ #[86, 9] ty #[v, .string s]).run Try.prog w = .ok v' w' ∧ OwnB w' B v' (xs ++ s.data.toList) ∧ Below B w w' ∧ (∀ p : Addr, p.block < B → w'.cell? p = w.cell? p ∧ w'.frozen? p = w.frozen? p) :=
    fun h1 h2 h3 => ⟨_, _, h1, h2, h3, fun p hp => ⟨h3.cell hp, h3.frozen hp⟩⟩
  have hsl : s.data.toList.length = s.size := by simp
  rcases h with ⟨rfl, rfl⟩ | ⟨g, off, cap, rfl, h2, h3, h4, h5, h6, h7⟩
  · have hown := World.ownsRow_nil w B 5 1
    obtain ⟨v', w', e1, e2, e3, e4⟩ := Lib.run_append_own_string (P := Try.prog) w B 86 9 ty 5 i0 Try.underlying86 Try.underlying9 hi hz0 hz1 hz2 _ 0 [] hown s (by unfold maxLen; omega) (by omega) hB
    refine fin e1 ?_ ((Below.refl _ _).grown e3 hB (fun k hk => by simp [Value.ownBlock] at hk))
    rw [List.nil_append] at *
    rcases e2.2 with ⟨hv, h0⟩ | ⟨g, cap, cur, hv, hg, hh, hn, hm, hcs, ht⟩
    · have : s.data.toList = [] := List.eq_nil_of_length_eq_zero (by rw [hsl]; omega)
      rw [this]; exact Or.inl ⟨hv, rfl⟩
    · have c1 := World.ownsRow.cellAt (show w'.ownsRow B 5 1 (.slice (some ⟨g, 0, none⟩) (0 + s.size) cap) (0 + s.size) (Lib.strCells s) by rw [← hv]; exact e2)
      refine Or.inr ⟨g, 0, cap, by rw [hsl, hv, Nat.zero_add], hg, (Array.getElem?_eq_some_iff.1 hh).1, by rw [hsl]; omega, hm, fun j hj => ?_, fun j hj => ?_⟩
      · rw [Nat.zero_add, cell_of_row w' g j cur 5 (0, 0) hh]
        refine ⟨by simp; omega, ?_⟩
        unfold World.frozen?
        simp only [hh]
        simp
      · rw [hsl] at hj
        rw [Nat.zero_add, c1 j (by omega)]
        simp [Lib.strCells, bcellv, hj]
  · by_cases hroom : xs.length + s.size ≤ cap
    · have hbl : (byteCells s).length = s.size := by simpa using byteCells_length s
      have hrun := run_append_room_src (P := Try.prog) w 86 9 ty 5 i0 Try.underlying86 hi g off xs.length cap (.string s) s.size (byteCells s) (by rw [hz1]; exact Src.ofString (w := w) Try.underlying9 s) hroom
        (fun j hj => by rw [hz1, Nat.mul_one, Nat.add_assoc]; exact (h6 _ (by omega)).1) (fun j hj => by rw [hz1, Nat.mul_one, Nat.add_assoc]; exact (h6 _ (by omega)).2)
      rw [hz1, Nat.mul_one] at hrun
      have hblk : ∀ k, k < w.heap.size → k ≠ g → (w.setCells g (off + xs.length) (byteCells s)).heap[k]? = w.heap[k]? := fun k hk hne => World.heap_setCells_other w g _ _ hk hne
      have hkb := World.keptBut_setCells g (may := fun _ => True) (byteCells s) (off + xs.length) w (fun _ _ => trivial)
      have hsz : (w.setCells g (off + xs.length) (byteCells s)).heap.size = w.heap.size := (setCells_size g _ _ _).1
      refine fin hrun (Or.inr ⟨g, off, cap, by rw [List.length_append, hsl], h2, by rw [hsz]; exact h3, by rw [List.length_append, hsl]; exact hroom, h5, fun j hj => ⟨World.isSome_setCells g _ _ _ _ (h6 j hj).1, (World.frozen?_setCells g _ _ _ _).trans (h6 j hj).2⟩, fun j hj => ?_⟩) ⟨World.os_setCells _ _ _ _, (setCells_size g _ _ _).2, World.output_setCells _ _ _ _, by rw [hsz]; exact Nat.le_refl _, fun k hk => hblk k (by omega) (by omega)⟩
      rw [List.length_append, hsl] at hj
      by_cases hjx : j < xs.length
      · rw [World.cell?_setCells_out g _ _ _ _ (fun _ _ => Or.inl (by show off + j < off + xs.length; omega)), List.getElem_append_left hjx]
        exact h7 j hjx
      · have := World.cell?_setCells_in g (byteCells s) (off + xs.length) w (fun q hq => by rw [Nat.add_assoc]; exact (h6 _ (by omega)).1) (j - xs.length) (by omega)
        rw [show off + xs.length + (j - xs.length) = off + j by omega] at this
        rw [this, List.getElem_append_right (by omega)]
        simp [byteCells, bcellv]
    · have hr := Lib.run_append_grow_string (P := Try.prog) w 86 9 ty 5 i0 (.int .u8 0) Try.underlying86 Try.underlying9 hi hz0 ⟨g, off, none⟩ xs.length cap (xs.map bcellv) (by rw [hz1, List.length_map, Nat.mul_one])
        (fun j u hu => by
          rw [List.getElem?_map] at hu
          obtain ⟨x, hx, rfl⟩ := Option.map_eq_some_iff.1 hu
          obtain ⟨hj, rfl⟩ := List.getElem?_eq_some_iff.1 hx
          rw [add_off]; exact h7 j hj) s (by omega) (by omega) (by rw [hz2]; exact growslice_fits (by omega) (by omega))
      obtain ⟨cp, hcp⟩ : ∃ cp, grownCap w (xs.length + s.size) cap 5 = cp := ⟨_, rfl⟩
      have hge := grownCap_ge w (xs.length + s.size) cap 5
      have hcm : grownCap w (xs.length + s.size) cap 5 ≤ maxLen := grownCap_le_maxLen w _ _ _ (by unfold maxLen; omega)
      rw [hcp] at hr hge hcm
      obtain ⟨cur, hcur⟩ : ∃ cur, (xs.map bcellv).toArray ++ (Lib.strCells s).toArray ++ Builtin.zeroCells (Value.int .u8 0).cells (cp - (xs.length + s.size)) = cur := ⟨_, rfl⟩
      rw [hcur] at hr
      have hcs : cur.size = cp := by
        have hz1 : (Value.int IntKind.u8 0).cells.size = 1 := rfl
        rw [← hcur]
        simp only [Array.size_append, List.size_toArray, size_zeroCells, hz1, Lib.strCells_length, List.length_map]
        omega
      have hl2 : (xs ++ s.data.toList).length = xs.length + s.size := by rw [List.length_append, hsl]
      refine fin hr (Or.inr ⟨w.heap.size, 0, cp, by rw [hl2], hB, by simp, by rw [hl2]; exact hge, hcm, fun j hj => ?_, fun j hj => ?_⟩) ((Below.refl B w).drew.alloc hB _)
      · rw [Nat.zero_add]
        rw [show w.heap.size = w.drew.heap.size from rfl, World.cell?_alloc_mark, World.frozen?_alloc_mark]
        refine ⟨by simp; omega, by simp⟩
      · rw [Nat.zero_add, show w.heap.size = w.drew.heap.size from rfl, World.cell?_alloc_mark, ← hcur]
        rw [hl2] at hj
        by_cases hjx : j < xs.length
        · rw [Array.getElem?_append_left (by simp; omega), Array.getElem?_append_left (by simp; omega), List.getElem_append_left hjx]
          simp [hjx]
        · rw [Array.getElem?_append_left (by simp [Lib.strCells_length]; omega), Array.getElem?_append_right (by simp; omega), List.getElem_append_right (by omega)]
          have hjs : j - xs.length < s.size := by omega
          simp [Lib.strCells, bcellv, hjs]

/-- The operation, for the walk. -/
theorem wpList_ownB {w : World} {ops : Array Oper} {rest : List Oper} {o : Oper} {a : Act} {Q : Exit → Act → World → Prop} (hgd : o.guard = none) (sl x : Operand)
    (ho : o.op = .call { callee := .builtin .append, args := #[sl, x], argTypes := #[86, 9] })
    (B : Nat) (v : Value) (xs : List UInt8) (hs : a.eval sl = v) (hown : OwnB w B v xs) (s : ByteArray) (hx : a.eval x = .string s) (hB : B ≤ w.heap.size) (hsz : xs.length + s.size ≤ 100000000)
    (h : ∀ v' w', OwnB w' B v' (xs ++ s.data.toList) → Below B w w' → wpList Try.prog ops Q rest (a.put o.dst v') w') : wpList Try.prog ops Q (o :: rest) a w := by
  refine wpList_plain hgd fun K hK => ?_
  obtain ⟨v', w', hr, h2, h3, -⟩ := hown.append hB s hsz o.type
  unfold Oper.wp execOp
  simp only [ho, resolve, invoke, builtin, Sem.run_bind, Sem.run_pure, Result.andThen_ok, List.map_toArray, List.map_cons, List.map_nil, hs, hx, hr]
  exact hK _ _ (h v' w' h2 h3)
/-- It made into a text. -/
theorem OwnB.whole {w : World} {B : Nat} {v : Value} {xs : List UInt8} (h : OwnB w B v xs) : (convert 86 9 v).run Try.prog w = .ok (.string (tx xs)) w := by
  rcases h with ⟨rfl, rfl⟩ | ⟨g, off, cap, rfl, h2, h3, h4, h5, h6, h7⟩
  · rfl
  · have := run_convert_bytes_back (P := Try.prog) w 86 9 5 ⟨g, off, none⟩ cap xs Try.underlying86 Try.underlying5 Try.underlying9 fun j hj => by
      rw [add_off, h7 j hj]; rfl
    simpa [tx] using this
/-- A text made into one. -/
theorem ownB_of_text (B : Nat) (s : ByteArray) (w : World) (hB : B ≤ w.heap.size) (hs : s.size ≤ 100000000) : ∃ v w', (convert 9 86 (.string s)).run Try.prog w = .ok v w' ∧ OwnB w' B v s.data.toList ∧ Below w.heap.size w w' := by
  have hsl : s.data.toList.length = s.size := by simp
  have hge := grownCap_ge w s.size 0 5
  have hcm : grownCap w s.size 0 5 ≤ maxLen := grownCap_le_maxLen w _ _ _ (by unfold maxLen; omega)
  refine ⟨_, _, run_bytes_of_string w 9 86 5 s Try.underlying9 Try.underlying86 Try.underlying5, Or.inr ⟨w.heap.size, 0, _, by rw [hsl], hB, by simp, by rw [hsl]; exact hge, hcm, fun j hj => ?_, fun j hj => ?_⟩, ((Below.refl _ _).drew).alloc (by simp) _⟩
  · have hrow : (bytesRow s (grownCap w s.size 0 5)).size = grownCap w s.size 0 5 := by
      have e : s.data.size = s.size := rfl
      unfold bytesRow; simp [Array.size_append]; omega
    rw [Nat.zero_add]
    rw [show w.heap.size = w.drew.heap.size from rfl, World.cell?_alloc_mark, World.frozen?_alloc_mark]
    refine ⟨?_, by simp; omega⟩
    rw [Array.getElem?_eq_getElem (by rw [hrow]; exact hj)]; rfl
  · have hj' : j < s.data.size := by simpa using hj
    rw [Nat.zero_add, show w.heap.size = w.drew.heap.size from rfl, World.cell?_alloc_mark, bytesRow_at _ _ _ hj']
    simp [bcellv]
end Go.Proofs.Ytjckphmkhikpaaa
/- The contract of the program's Points. -/
set_option maxRecDepth 20000
namespace Go.Proofs.Ytjckphmkhikpaaa
open Go.RowKit Go.Proofs.Ytjckphmkhikpaaa.Vi Go.Proofs.Ytjckphmkhikpaaa.Mk

/-- What Points answers. -/
def ptsA (l : List Pt) : ByteArray × Int := if l.all Pt.ok = true then (if 1000 < l.length then (⟨#[]⟩, 11) else (tx (ptsB l), 0)) else (⟨#[]⟩, 1)
theorem ptsA_no {l : List Pt} {k : Nat} (h : k < l.length) (hb : (l[k]).ok = false) : ptsA l = (⟨#[]⟩, 1) := by
  unfold ptsA
  rw [if_neg]
  intro e
  have := List.all_eq_true.1 e _ (List.getElem_mem h)
  rw [hb] at this; cases this
theorem all_ok {l : List Pt} (h : ∀ j (hj : j < l.length), (l[j]).ok = true) : l.all Pt.ok = true := List.all_eq_true.2 fun x hx => by
  obtain ⟨j, hj, rfl⟩ := List.getElem_of_mem hx
  exact h j hj
theorem ptsA_many {l : List Pt} (h : ∀ j (hj : j < l.length), (l[j]).ok = true) (hn : 1000 < l.length) : ptsA l = (⟨#[]⟩, 11) := by
  unfold ptsA; rw [if_pos (all_ok h), if_pos hn]
theorem ptsA_yes {l : List Pt} (h : ∀ j (hj : j < l.length), (l[j]).ok = true) (hn : ¬ 1000 < l.length) : ptsA l = (tx (ptsB l), 0) := by
  unfold ptsA; rw [if_pos (all_ok h), if_neg hn]
theorem bytesP_snoc' (l : List Pt) (k : Nat) (h : k < l.length) : enc l.length ++ bytesP (l.take (k + 1)) = enc l.length ++ bytesP (l.take k) ++ (l[k]).bytes := by
  rw [List.take_succ_eq_append_getElem h, bytesP_snoc, List.append_assoc]
theorem bytesP_take_len (l : List Pt) (k : Nat) (h : ∀ p ∈ l, p.ok = true ∧ p.vfit) (hk : k ≤ 1000) : (bytesP (l.take k)).length ≤ 110000 := by
  have := bytesP_len (l.take k) fun p hp => h p (List.mem_of_mem_take hp)
  rw [List.length_take] at this; omega
/-- Points' answer. -/
def PointsDone (l : List Pt) (w : World) (e : Ending) (w' : World) : Prop := e = .returned (.tuple #[.string (ptsA l).1, .int .i64 (ptsA l).2]) ∧ Below w.heap.size w w'

set_option maxHeartbeats 8000000 in
theorem points_is (a0 : Option Addr) (cap0 : Nat) (l : List Pt) (w : World) (hS : Pts w w.heap.size a0 l) (hl : l.length ≤ 100000) (hf : ∀ p ∈ l, p.s.size ≤ 1000000 ∧ p.vfit) : Calls Try.prog 27 #[.slice a0 l.length cap0] w (PointsDone l w) := by
  have HS := Lib.hid hS
  have HF := Lib.hid hf
  clear hS hf
  unfold PointsDone
  go_enter Try.func27, Try.ntmps27
  go_wp2
  go_loopw [12] (fun i wr => ∃ (k : Nat), k ≤ l.length ∧ i = .int .i64 (k : Int) ∧ Below w.heap.size w wr ∧ Hid (∀ j (hj : j < l.length), j < k → (l[j]).ok = true)) (fun i _ => l.length - (intOf i).toNat)
  case atStart => exact ⟨0, by omega, rfl, Below.refl _ _, Lib.hid fun j _ hj => absurd hj (Nat.not_lt_zero _)⟩
  case round =>
    obtain ⟨k, hk, rfl, hB, hall⟩ := hrel
    by_cases hlt : k < l.length
    · have hlti : (k : Int) < (l.length : Int) := by omega
      rcases HS.out.at_ with rfl | ⟨b, off, rfl, hbw, hc⟩
      · simp at hlt
      · have hA := (hc k hlt).below hB hbw
        have hf := HF.out _ (List.getElem_mem hlt)
        have HNO := Lib.hid (fun (h : (l[k]).ok = false) => ptsA_no hlt h)
        have HGO := Lib.hid (fun (h : (l[k]).ok = true) => show ∀ j (hj : j < l.length), j < k + 1 → (l[j]).ok = true from fun j hj hjk => by
          by_cases e : j = k
          · subst e; exact h
          · exact hall.out j hj (by omega))
        obtain ⟨p, hp⟩ : ∃ p, l[k] = p := ⟨_, rfl⟩
        rw [hp] at hA hf HNO HGO
        obtain ⟨c0, c1, c2, c3, c4, c5⟩ := hA
        have kc := fun w => checkp_is p w (by omega)
        unfold Pt.err at kc
        unfold ptV at kc
        have HBH := Lib.hid hB
        clear hc hp hall hB hf
        cases hok : p.ok with
        | true =>
          have HH := Lib.hid (HGO.out hok)
          rw [hok] at kc
          clear HGO HNO hok
          go_wp2_with (go_at_call 33; (with_reducible refine (kc _).mono ?_); rintro e w1 ⟨rfl, hb1⟩)
          go_roundw
          case rel => exact ⟨k + 1, by omega, by go_num, HBH.out.trans ((((Below.refl wr.heap.size wr).alloc (Nat.le_refl _) _).trans (hb1.mono (by simp))).mono HBH.out.size), HH⟩
          case measure => simp [intOf]; omega
        | false =>
          have HH := Lib.hid (HNO.out hok)
          rw [hok] at kc
          clear HGO HNO hok
          go_wp2_with (go_at_call 33; (with_reducible refine (kc _).mono ?_); rintro e w1 ⟨rfl, hb1⟩)
          go_ret2
          exact ⟨by rw [HH.out]; rfl, HBH.out.trans ((((Below.refl wr.heap.size wr).alloc (Nat.le_refl _) _).trans (hb1.mono (by simp))).mono HBH.out.size)⟩
    · have hlti : ¬ (k : Int) < (l.length : Int) := by omega
      have hall2 : ∀ j (hj : j < l.length), (l[j]).ok = true := fun j hj => hall.out j hj (by omega)
      have HBH := Lib.hid hB
      clear hB hall
      by_cases hn : 1000 < l.length
      · have hni : (1000 : Int) < (l.length : Int) := by omega
        have HH := Lib.hid (ptsA_many hall2 hn)
        clear hall2
        go_wp2
        go_ret2
        exact ⟨by rw [HH.out]; rfl, HBH.out⟩
      · have hni : ¬ (1000 : Int) < (l.length : Int) := by omega
        have HH := Lib.hid (ptsA_yes hall2 hn)
        have HOK := Lib.hid (fun p (hp : p ∈ l) => (⟨by obtain ⟨j, hj, rfl⟩ := List.getElem_of_mem hp; exact hall2 j hj, (HF.out p hp).2⟩ : p.ok = true ∧ p.vfit))
        clear hall2
        obtain ⟨w3, hw3⟩ : ∃ x, x = wr := ⟨_, rfl⟩
        subst hw3
        have hu : IntKind.u64.wrap (l.length : Int) = (l.length : Int) := by rw [IntKind.wrap_u64]; omega
        obtain ⟨h0, hh0⟩ : ∃ s, tx (enc l.length) = s := ⟨_, rfl⟩
        have kp := fun w => put_is l.length h0 w (by omega) (Lib.hid hh0)
        have hz0 : h0.size ≤ 10 := by rw [← hh0, tx_size]; exact enc_len10 _ (by omega)
        have HH0 := Lib.hid (show h0.data.toList = enc l.length by rw [← hh0, tx_list6])
        clear hh0
        have htx := fun w hB => ownB_of_text w3.heap.size h0 w hB (by omega)
        go_wp2_with (first
          | (go_at_call 35; (with_reducible refine (kp _).mono ?_); rintro e w4 ⟨rfl, hb4⟩; obtain ⟨v5, w5, hcv, hO5, hb5⟩ := htx w4 hb4.size))
        have HB5 := Lib.hid (hb4.trans (hb5.mono hb4.size))
        have HO5 := Lib.hid (show OwnB w5 w3.heap.size v5 (enc l.length ++ bytesP (l.take 0)) by rw [← HH0.out]; simpa [bytesP] using hO5)
        clear hb4 hb5 hO5 hcv
        go_loopw [7, 32] (fun v i wr => ∃ (k : Nat), k ≤ l.length ∧ i = .int .i64 (k : Int) ∧ OwnB wr w3.heap.size v (enc l.length ++ bytesP (l.take k)) ∧ Below w3.heap.size w3 wr) (fun _ i _ => l.length - (intOf i).toNat)
        case atStart => exact ⟨0, by omega, rfl, HO5.out, HB5.out⟩
        case round =>
          obtain ⟨k, hk, rfl, hO, hB⟩ := hrel
          clear HO5 HB5
          by_cases hkl : k < l.length
          · have hlti : (k : Int) < (l.length : Int) := by omega
            rcases HS.out.at_ with hl0 | ⟨b, off, rfl, hbw, hc⟩
            · rw [hl0] at hkl; simp at hkl
            · have hA := ((hc k hkl).below HBH.out hbw).below hB (Nat.lt_of_lt_of_le hbw HBH.out.size)
              have hf := HOK.out _ (List.getElem_mem hkl)
              have hlen := bytesP_take_len l k HOK.out (by omega)
              have hsn := bytesP_snoc' l k hkl
              obtain ⟨p, hp⟩ : ∃ p, l[k] = p := ⟨_, rfl⟩
              rw [hp] at hA hf hsn
              obtain ⟨c0, c1, c2, c3, c4, c5⟩ := hA
              obtain ⟨S, hS⟩ : ∃ S, tx p.bytes = S := ⟨_, rfl⟩
              have ks := fun w => putp_is p S w hf.1 hf.2 (Lib.hid hS)
              have hsz : S.size ≤ 110 := by rw [← hS, tx_size]; exact pt_bytes_len hf.1 hf.2
              have HSL := Lib.hid (show S.data.toList = p.bytes by rw [← hS, tx_list6])
              have hxl : (enc l.length ++ bytesP (l.take k)).length ≤ 120000 := by
                have := enc_len10 l.length (by omega)
                rw [List.length_append]; omega
              obtain ⟨xs, hxs⟩ : ∃ xs, enc l.length ++ bytesP (l.take k) = xs := ⟨_, rfl⟩
              rw [hxs] at hO hsn hxl
              have HSN := Lib.hid hsn
              have HBB := Lib.hid hB
              have HO := Lib.hid hO
              unfold ptV at ks
              clear hc hp hf hlen hsn hS hxs hB hO
              go_wp2_with (first
                | (go_at_call 38; (with_reducible refine (ks _).mono ?_); rintro e w6 ⟨rfl, hb6⟩; have hb7 := ((Below.refl wr.heap.size wr).alloc (Nat.le_refl _) (.cells #[.string p.s, .int .i64 p.t, .int .i64 p.v, .int .i64 p.st.c, .int .i64 p.st.s, .int .i64 p.st.q] 34)).trans (hb6.mono (by simp)); have HO6 := Lib.hid (HO.out.under hb7 (Nat.le_refl _)); have HB6 := Lib.hid (HBB.out.trans (hb7.mono HBB.out.size)); clear hb6 hb7)
                | (at_builtin; refine wpList_ownB rfl _ _ rfl w3.heap.size _ xs rfl HO6.out S rfl HB6.out.size (by omega) ?_))
              intro v7 w7 hO7 hb7
              have HO7 := Lib.hid (show OwnB w7 w3.heap.size v7 (enc l.length ++ bytesP (l.take (k + 1))) by rw [HSN.out, ← HSL.out]; exact hO7)
              have HB7 := Lib.hid (HB6.out.trans hb7)
              clear hO7 hb7
              go_wp2
              go_roundw
              case rel => exact ⟨k + 1, by omega, by go_num, HO7.out, HB7.out⟩
              case measure => simp [intOf]; omega
          · have hlti : ¬ (k : Int) < (l.length : Int) := by omega
            have hkl : l.take k = l := List.take_of_length_le (by omega)
            rw [hkl] at hO
            have hcv := hO.whole
            obtain ⟨xs, hxs⟩ : ∃ xs, enc l.length ++ bytesP l = xs := ⟨_, rfl⟩
            have HXS := Lib.hid hxs
            rw [hxs] at hO hcv
            clear hxs
            obtain ⟨a5, c5, rfl⟩ := hO.slice
            have HBB := Lib.hid hB
            have HX := Lib.hid (show (ptsA l).1 = tx xs by rw [HH.out, ← HXS.out]; rfl)
            clear hO hB hkl
            go_wp2
            go_ret2
            exact ⟨by rw [HX.out, HH.out]; rfl, HBH.out.trans (HBB.out.mono HBH.out.size)⟩
end Go.Proofs.Ytjckphmkhikpaaa
/- Two records in their blocks; what law SampleBack asks of bytes. -/
set_option maxRecDepth 20000
namespace Go.Proofs.Ytjckphmkhikpaaa
open Go.RowKit Go.Proofs.Ytjckphmkhikpaaa.Vi Go.Proofs.Ytjckphmkhikpaaa.Mk

theorem RecW.nine_other {w : World} {b b' : Nat} {r r' : Rec} {dv dv' : Value} (h : RecW w b' r' dv') (hne : b ≠ b') : RecW (Go.Proofs.Ytjckphmkhikpaaa.nine w b r dv) b' r' dv' := by
  unfold Go.Proofs.Ytjckphmkhikpaaa.nine
  refine RecW.other ?_ _ _ hne
  refine RecW.other ?_ _ _ hne
  refine RecW.other ?_ _ _ hne
  refine RecW.other ?_ _ _ hne
  refine RecW.other ?_ _ _ hne
  refine RecW.other ?_ _ _ hne
  refine RecW.other ?_ _ _ hne
  refine RecW.other ?_ _ _ hne
  refine RecW.other ?_ _ _ hne
  exact h
/-- Two records in their blocks, and their numbers. -/
structure TwoR (w : World) (p0 p1 : Nat) (a b : Rec) (da db : Value) (w' : World) : Prop where
  at0 : RecW w' p0 a da
  at1 : RecW w' p1 b db
  n0 : Ns w' da a.d
  n1 : Ns w' db b.d
  bel : Below w.heap.size w w'
theorem TwoR.keep {w w1 w2 : World} {p0 p1 : Nat} {a b : Rec} {da db : Value} (h : TwoR w p0 p1 a b da db w1) (k : Below w1.heap.size w1 w2) : TwoR w p0 p1 a b da db w2 := ⟨h.at0.below k, h.at1.below k, h.n0.later k, h.n1.later k, bel_next h.bel k⟩
theorem Rec.same_iff {a b : Rec} : a.same b = true ↔ a = b := by
  obtain ⟨k1, s1, t1, v1, x1, y1, d1⟩ := a
  obtain ⟨k2, s2, t2, v2, x2, y2, d2⟩ := b
  unfold Rec.same sameL
  simp only [Bool.and_eq_true, decide_eq_true_eq, Rec.mk.injEq]
  constructor
  · rintro ⟨⟨⟨⟨⟨⟨h1, h2⟩, h3⟩, h4⟩, h5⟩, h6⟩, h7⟩
    exact ⟨h2, h3, h4, h5, h6, h7, h1⟩
  · rintro ⟨h2, h3, h4, h5, h6, h7, h1⟩
    exact ⟨⟨⟨⟨⟨⟨h1, h2⟩, h3⟩, h4⟩, h5⟩, h6⟩, h7⟩
theorem Rec.same_no {a b : Rec} (h : a ≠ b) : a.same b = false := Bool.eq_false_iff.2 fun e => h (Rec.same_iff.1 e)
theorem rec_bytes_len {r : Rec} (h : r.ok = true) (hf : r.fits) : r.bytes.length ≤ 300 := by
  obtain ⟨⟨t1, t2⟩, -, -, -⟩ := Rec.head_parts (Rec.ok_head h)
  have h3 := st_bytes_len r.st
  have h4 := textL_plain_len r.d
  have e3 := enc_len10 r.t.toNat (by omega)
  rcases Rec.ok_kind h with ⟨hk, hn, -⟩ | ⟨hk, -, -, x1, x2⟩
  · have hn40 := name_len hn
    have hz := zig_bounds r.v hf.v.1 hf.v.2
    have e1 := enc_len10 r.k.toNat (by omega)
    have e2 := enc_len10 r.s.size (by omega)
    have e4 := enc_len10 (zig r.v).toNat (by omega)
    have e5 : r.s.data.toList.length = r.s.size := by simp
    unfold Rec.bytes Rec.mid
    rw [if_pos hk]
    simp only [List.length_append]
    omega
  · have e1 := enc_len10 r.k.toNat (by omega)
    have e2 := enc_len10 r.tier.toNat (by omega)
    unfold Rec.bytes Rec.mid
    rw [if_neg (by omega)]
    simp only [List.length_append]
    omega
/-- What a record's bytes are. -/
structure BackS (a : Rec) (s : ByteArray) : Prop where
  pos : 0 < s.size
  size : s.size ≤ 1000
  read : recQ s = some a
  cut : recQ (s.extract 0 (s.size - 1)) = none
theorem back_of {a : Rec} (h : a.ok = true) (hf : a.fits) : BackS a (tx a.bytes) := by
  have hl := rec_bytes_len h hf
  have hne := a.bytes_ne
  have hp : 0 < a.bytes.length := List.length_pos_iff.2 hne
  have hz : (tx a.bytes).size = a.bytes.length := tx_size _
  refine ⟨by omega, by omega, ?_, ?_⟩
  · have := recQ_enc a h hf.v []
    rw [List.append_nil, if_pos rfl] at this
    exact this
  · have e : (tx a.bytes).extract 0 ((tx a.bytes).size - 1) = tx (a.bytes.take (a.bytes.length - 1)) := by
      apply list_inj
      rw [hz, tx_list6, ByteArray.data_extract, Array.toList_extract]
      simp [tx]
    rw [e]
    exact recQ_short h hf.v (q := a.bytes.drop (a.bytes.length - 1)) (List.take_append_drop _ _).symm (by intro e; have := congrArg List.length e; rw [List.length_drop] at this; simp at this; omega)
end Go.Proofs.Ytjckphmkhikpaaa
