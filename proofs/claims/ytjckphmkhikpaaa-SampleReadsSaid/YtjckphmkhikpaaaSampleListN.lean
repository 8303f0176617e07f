/- The contracts of the program's list of numbers and of Read's closure. -/
import Derived.Test.YtjckphmkhikpaaaSampleTv
import Derived.Test.YtjckphmkhikpaaaSampleTakeP
set_option maxRecDepth 20000
namespace Go.Proofs.Ytjckphmkhikpaaa
open Go.RowKit Go.Proofs.Ytjckphmkhikpaaa.Vi Go.Proofs.Ytjckphmkhikpaaa.Mk

/-- What Read's list reads. -/
def tvN (r : ByteArray) (b : Bool) : List Int × ByteArray × Bool :=
  if b = true then ([], ⟨#[]⟩, true) else (outS r (cntS r).toNat, (stp r (cntS r).toNat).1, (stp r (cntS r).toNat).2)
theorem recQ_tvN {S r r' : ByteArray} {q : Rec} {b b' : Bool} {l : List Int} (h : headQ S = (q, r, b)) (ht : tvN r b = (l, r', b')) : recQ S = if endQ r' b' = 0 ∧ Rec.ok { q with d := l } = true then some { q with d := l } else none := by
  unfold tvN at ht
  cases b with
  | true =>
    rw [if_pos rfl] at ht
    simp only [Prod.mk.injEq] at ht
    obtain ⟨rfl, rfl, rfl⟩ := ht
    rw [recQ_bad h, if_neg]
    intro g; exact absurd g.1 (by decide)
  | false =>
    have hc := cntS_bounds r
    have hn : (((cntS r).toNat : Nat) : Int) = cntS r := by omega
    generalize (cntS r).toNat = n at *
    rw [if_neg (by simp)] at ht
    simp only [Prod.mk.injEq] at ht
    obtain ⟨rfl, rfl, rfl⟩ := ht
    by_cases hE : endQ (stp r n).1 (stp r n).2 = 0 ∧ Rec.ok { q with d := outS r n } = true
    · rw [if_pos hE]
      obtain ⟨h1, h2⟩ := hE
      have hp := (Rec.head_parts (Rec.ok_head h2)).2.1
      have hb : (stp r n).2 = false := by
        cases hb : (stp r n).2 with
        | false => rfl
        | true => rw [hb] at h1; simp [endQ] at h1
      rw [hb] at h1
      refine recQ_yes h hn hb hp ?_ h2
      unfold endQ at h1
      rw [if_neg (by simp)] at h1
      split at h1
      · assumption
      · omega
    · rw [if_neg hE]
      refine recQ_no h hn fun g => hE ⟨?_, g.2.2.2⟩
      rw [g.1]
      unfold endQ
      rw [if_neg (by simp), if_pos g.2.2.1]
theorem recQ_kind {S r : ByteArray} {b : Bool} {k : Int} (h : smallQ S false 2 = (k, r, b)) (h1 : k ≠ 1) (h2 : k ≠ 2) : recQ S = none := by
  cases hr : recQ S with
  | none => rfl
  | some q =>
    exfalso
    unfold recQ at hr
    simp only at hr
    split at hr
    · rename_i hh
      have hk : (headQ S).1.k = k := by unfold headQ; rw [h]
      have := Rec.ok_none (r := { (headQ S).1 with d := outS (headQ S).2.1 (cntS (headQ S).2.1).toNat }) (by show (headQ S).1.k ≠ 1; rw [hk]; exact h1) (by show (headQ S).1.k ≠ 2; rw [hk]; exact h2)
      rw [this] at hh; cases hh.2.2.2.2
    · cases hr

set_option maxHeartbeats 1000000 in
theorem rd1_is (d q : Nat) (r r' : ByteArray) (b b' : Bool) (v : Int) (w : World) (hr : r.size ≤ 100000) (H : Hid (smallQ r b 1099511627776 = (v, r', b'))) (h : RA w d r b) (hq : w.cell? ⟨q, 0, none⟩ = some (.func (.func 57) #[.pointer (some ⟨d, 0, none⟩)] #[])) :
    Calls Try.prog 61 #[.pointer (some ⟨q, 0, none⟩)] w (Took d (.int .i64 v) r' b' w) := by
  have k := small_is d r r' b b' v 1099511627776 w (by unfold maxLen; omega) (by omega) H h
  clear h hr
  go_enter Try.func61, Try.ntmps61
  go_wp2_with (first
    | (go_at_call 57; (with_reducible refine k.mono ?_); rintro e w1 ⟨rfl, hR, hB⟩))
  go_ret
  exact ⟨rfl, hR, hB⟩

/-- What list's loop has read. -/
structure LnR (w wr : World) (d : Nat) (r : ByteArray) (o : Value) (k : Nat) : Prop where
  row : IRow wr w.heap.size o (outS r k)
  ra : RA wr d (stp r k).1 (stp r k).2
  bel : But d w wr
theorem LnR.len {w wr : World} {d : Nat} {r : ByteArray} {o : Value} {k : Nat} (R : LnR w wr d r o k) : ∃ a c, o = .slice a k c := by
  have := R.row.slice; rw [outS_len] at this; exact this
/-- What list answers. -/
def LnDone (d : Nat) (l : List Int) (r' : ByteArray) (b' : Bool) (w : World) (e : Ending) (w' : World) : Prop := ∃ v, e = .returned v ∧ But d w w' ∧ Ns w' v l ∧ (∀ q, v.ownBlock = some q → w.heap.size ≤ q) ∧ RA w' d r' b'
set_option maxHeartbeats 8000000 in
theorem listn_good (d q n : Nat) (r : ByteArray) (w : World) (hs : r.size ≤ 100000) (hn : (n : Int) = cntS r) (h : RA w d r false) (hq : w.cell? ⟨q, 0, none⟩ = some (.func (.func 57) #[.pointer (some ⟨d, 0, none⟩)] #[])) (hne : q ≠ d) :
    Calls Try.prog 60 #[.pointer (some ⟨d, 0, none⟩), .int .i64 8, .func (.func 61) #[] #[.pointer (some ⟨q, 0, none⟩)]] w (LnDone d (outS r n) (stp r n).1 (stp r n).2 w) := by
  obtain ⟨i0, hi, hz0, hz1, hz2⟩ := info_parts infoI
  have hc := cntS_bounds r
  have hn1 : n ≤ 8 := by omega
  have k1 := fun w h => small_is d r (stp r 0).1 false (stp r 0).2 (cntS r) 8 w (by unfold maxLen; omega) (by omega) (Lib.hid (stp_zero r)) h
  rw [← hn] at k1
  have hd := h.room
  have hqr := World.block_lt_of_cell? w _ hq
  have HN := Lib.hid hn
  have HQ := Lib.hid hq
  clear hc hn hq
  go_enter Try.func60, Try.ntmps60
  go_wp2_with (first
    | (go_at_call 57; (with_reducible refine (k1 _ h).mono ?_); rintro e w1 ⟨rfl, hA, hB⟩))
  have R0 := Lib.hid (show LnR w w1 d r (.slice none 0 0) 0 from ⟨IRow.nil _ _, hA, hB⟩)
  clear hA hB k1 h
  go_loopw [7, 11] (fun o i wr => ∃ k : Nat, k ≤ n ∧ i = .int .i64 (k : Int) ∧ LnR w wr d r o k) (fun _ i _ => n - (intOf i).toNat)
  case atStart => exact ⟨0, by omega, rfl, R0.out⟩
  case round =>
    obtain ⟨k, hk, rfl, R⟩ := hrel
    obtain ⟨a1, cc1, rfl⟩ := R.len
    clear R0
    by_cases hlt : k < n
    · have hlt2 : (k : Int) < (n : Int) := by omega
      have hqw := (R.bel.cell (p := ⟨q, 0, none⟩) hne hqr).trans HQ.out
      have k2 := rd1_is d q (stp r k).1 (stp r (k + 1)).1 (stp r k).2 (stp r (k + 1)).2 (numS r k) wr (by have := (stp_inv r k).2; omega) (Lib.hid (stp_step (by rw [← HN.out]; exact hlt2))) R.ra hqw
      have hrow := Lib.hid R.row
      have hbel := Lib.hid R.bel
      obtain ⟨x, hx⟩ : ∃ x, numS r k = x := ⟨_, rfl⟩
      rw [hx] at k2
      have HX := Lib.hid hx
      clear R hx hqw
      go_wp2_with (first
        | (go_at_call 61; (with_reducible refine k2.mono ?_); rintro e w2 ⟨rfl, hA2, hB2⟩; have hR := hrow.out.but hB2 hd; have hb2 := hbel.out.trans hB2; have hBr := hb2.size; have hown : ∀ q, (Value.slice a1 k cc1).ownBlock = some q → w.heap.size ≤ q := fun q hq => (World.ownsRow.lt hR q hq).1)
        | (at_builtin; refine wpList_append_own _ rfl _ _ 24 rfl w.heap.size 3 i0 (.int .i64 0) 1 8 Try.underlying24 hi hz0 hz1 hz2 rfl (by decide) _ _ _ rfl (hR.alloc _) ⟨w2.heap.size, 0, none⟩ 1 1 [icell x] rfl rfl ?c1 ?c2 ?c3 ?c4 ?c5 ?_))
      case c1 =>
        intro j u hj
        match j, hj with
        | 0, hj => simp at hj; subst hj; first | (simp [icell]; done) | (simp [icell, Addr.add]; done)
      case c2 => first | rfl | (intro u hu; simp at hu; subst hu; rfl)
      case c3 => rw [outS_len]; unfold maxLen; (try simp); omega
      case c4 => rw [outS_len]; (try simp); omega
      case c5 => (try simp); omega
      intro v' w3 hown3 hgrow _
      have hB3 : Below w.heap.size w2 w3 := ((Below.refl w.heap.size w2).alloc hBr _).grown hgrow (by simp; omega) hown
      have hR3 : IRow w3 w.heap.size v' (outS r (k + 1)) := by
        unfold IRow
        rw [outS_succ, HX.out]
        simp only [List.length_append, List.map_append, List.length_cons, List.length_nil, List.map_cons, List.map_nil]
        exact hown3
      have HR3 := Lib.hid (show LnR w w3 d r v' (k + 1) from ⟨hR3, hA2.farB hB3 hd, hb2.ofB hB3 (Nat.le_refl _)⟩)
      clear hown3 hgrow hR3 hB3 hR hA2 hB2 hb2 hbel hrow hown
      go_wp2
      go_roundw
      case rel => exact ⟨k + 1, by omega, by go_num, HR3.out⟩
      case measure => simp [intOf]; omega
    · obtain rfl : k = n := by omega
      have hlt2 : ¬ (k : Int) < (k : Int) := by omega
      have hNs := R.row.ns (fun m hm => by
        obtain ⟨i, _, rfl⟩ := List.mem_map.1 (show m ∈ (List.range k).map (numS r) from hm)
        have := numS_bounds r i; omega) (by rw [outS_len]; omega)
      have HR := Lib.hid (show LnDone d (outS r k) (stp r k).1 (stp r k).2 w (.returned (.slice a1 k cc1)) wr from ⟨_, rfl, R.bel, hNs, fun q hq => (World.ownsRow.lt R.row q hq).1, R.ra⟩)
      clear R hNs
      go_wp2
      go_ret
      exact HR.out
theorem listn_bad (d q : Nat) (w : World) (h : RA w d ⟨#[]⟩ true) :
    Calls Try.prog 60 #[.pointer (some ⟨d, 0, none⟩), .int .i64 8, .func (.func 61) #[] #[.pointer (some ⟨q, 0, none⟩)]] w (LnDone d [] ⟨#[]⟩ true w) := by
  have k1 := fun w h => small_is d ⟨#[]⟩ ⟨#[]⟩ true true 0 8 w (by decide) (by omega) (Lib.hid rfl) h
  go_enter Try.func60, Try.ntmps60
  go_wp2_with (first
    | (go_at_call 57; (with_reducible refine (k1 _ h).mono ?_); rintro e w1 ⟨rfl, hA, hB⟩))
  go_loopw [7, 11] (fun o i wr => o = .slice none 0 0 ∧ i = .int .i64 0 ∧ w1 = wr) (fun _ _ _ => 0)
  case atStart => exact ⟨rfl, rfl, rfl⟩
  case round =>
    obtain ⟨rfl, rfl, rfl⟩ := hrel
    go_wp2
    go_ret
    exact ⟨_, rfl, hB, (Nums.nil w1 none 0).mono (Nat.zero_le _) (Nat.le_refl _), fun q hq => (by cases hq), hA⟩
theorem listn_is (d q : Nat) (r r' : ByteArray) (b b' : Bool) (l : List Int) (w : World) (hs : r.size ≤ 100000) (H : Hid (tvN r b = (l, r', b'))) (hi : b = true → r = ⟨#[]⟩) (h : RA w d r b) (hq : w.cell? ⟨q, 0, none⟩ = some (.func (.func 57) #[.pointer (some ⟨d, 0, none⟩)] #[])) (hne : q ≠ d) :
    Calls Try.prog 60 #[.pointer (some ⟨d, 0, none⟩), .int .i64 8, .func (.func 61) #[] #[.pointer (some ⟨q, 0, none⟩)]] w (LnDone d l r' b' w) := by
  have H := H.out
  unfold tvN at H
  cases b with
  | true =>
    rw [if_pos rfl] at H
    simp only [Prod.mk.injEq] at H
    obtain ⟨rfl, rfl, rfl⟩ := H
    obtain rfl := hi rfl
    exact listn_bad d q w h
  | false =>
    have hc := cntS_bounds r
    have hn : (((cntS r).toNat : Nat) : Int) = cntS r := by omega
    rw [if_neg (by simp)] at H
    simp only [Prod.mk.injEq] at H
    obtain ⟨rfl, rfl, rfl⟩ := H
    exact listn_good d q _ r w hs hn h hq hne
end Go.Proofs.Ytjckphmkhikpaaa
