/- The contract of the document's TakeVector, wherever the reader stands. -/
import Derived.Test.YtjckphmkhikpaaaMarkRRead
set_option maxRecDepth 20000
namespace Go.Proofs.Ytjckphmkhikpaaa
open Go.RowKit Go.Proofs.Ytjckphmkhikpaaa.Vi Go.Proofs.Ytjckphmkhikpaaa.Mk

/-- What TakeVector's loop has read. -/
structure TvG (w wr : World) (d : Nat) (S r : ByteArray) (o : Value) (k : Nat) : Prop where
  row : IRow wr w.heap.size o (outS r k)
  rs : RS wr d S (stp r k).1 (stp r k).2
  bel : But d w wr
theorem TvG.len {w wr : World} {d : Nat} {S r : ByteArray} {o : Value} {k : Nat} (R : TvG w wr d S r o k) : ∃ a c, o = .slice a k c := by
  have := R.row.slice; rw [outS_len] at this; exact this
/-- What TakeVector answers. -/
def TvGDone (d : Nat) (S r : ByteArray) (n : Nat) (w : World) (e : Ending) (w' : World) : Prop :=
  ∃ v, e = .returned v ∧ But d w w' ∧ (((stp r n).2 = false ∧ outS r n = plainL (outS r n) ∧ Ns w' v (outS r n) ∧ (∀ q, v.ownBlock = some q → w.heap.size ≤ q) ∧ RS w' d S (stp r n).1 false) ∨ (¬ ((stp r n).2 = false ∧ outS r n = plainL (outS r n)) ∧ v = .slice none 0 0 ∧ RS w' d S ⟨#[]⟩ true))

set_option maxHeartbeats 4000000 in
theorem rtv_gen (d : Nat) (S r : ByteArray) (n : Nat) (w : World) (hs : S.size ≤ 100000) (hn : (n : Int) = cntS r) (h : RS w d S r false) : Calls Try.prog 67 #[.pointer (some ⟨d, 0, none⟩)] w (TvGDone d S r n w) := by
  obtain ⟨i0, hi, hz0, hz1, hz2⟩ := info_parts infoI
  have k1 := rsmall_is d S r (stp r 0).1 false (stp r 0).2 (cntS r) 8 w hs (by omega) (Lib.hid (stp_zero r)) h
  rw [← hn] at k1
  have hroom := h.room
  have hc8 := cntS_bounds r
  have HN := Lib.hid hn
  have hn8 : n ≤ 8 := by omega
  clear h hc8
  go_enter Try.func67, Try.ntmps67
  go_wp2_with (first
    | (go_at_call 63; (with_reducible refine k1.mono ?_); rintro e w1 ⟨rfl, hR, hB⟩))
  have R0 := Lib.hid (show TvG w w1 d S r (.slice none 0 0) 0 from ⟨IRow.nil w1 w.heap.size, hR, hB⟩)
  clear hR hB k1
  go_loopw [4, 5] (fun o i wr => ∃ k : Nat, k ≤ n ∧ i = .int .i64 (k : Int) ∧ TvG w wr d S r o k) (fun _ i _ => n - (intOf i).toNat)
  case atStart => exact ⟨0, by omega, rfl, R0.out⟩
  case round =>
    obtain ⟨k, hk, rfl, R⟩ := hrel
    obtain ⟨a1, cc1, rfl⟩ := R.len
    clear R0
    by_cases hlt : k < n
    · have hlt2 : (k : Int) < (n : Int) := by omega
      have k2 := rsmall_is d S (stp r k).1 (stp r (k + 1)).1 (stp r k).2 (stp r (k + 1)).2 (numS r k) 1099511627776 wr hs (by omega) (Lib.hid (stp_step (by rw [← HN.out]; exact hlt2))) R.rs
      have hrow := Lib.hid R.row
      have hbel := Lib.hid R.bel
      obtain ⟨x, hx⟩ : ∃ x, numS r k = x := ⟨_, rfl⟩
      rw [hx] at k2
      have HX := Lib.hid hx
      clear R hx
      go_wp2_with (first
        | (go_at_call 63; (with_reducible refine k2.mono ?_); rintro e w2 ⟨rfl, hR2, hB2⟩; have hR := hrow.out.but hB2 hroom; have hb2 := hbel.out.trans hB2; have hBr := hb2.size; have hne : ∀ q, (Value.slice a1 k cc1).ownBlock = some q → w.heap.size ≤ q := fun q hq => (World.ownsRow.lt hR q hq).1)
        | (at_builtin; refine wpList_append_own _ rfl _ _ 24 rfl w.heap.size 3 i0 (.int .i64 0) 1 8 Try.underlying24 hi hz0 hz1 hz2 rfl (by decide) _ _ _ rfl (hR.alloc _) ⟨w2.heap.size, 0, none⟩ 1 1 [icell x] rfl rfl ?c1 ?c2 ?c3 ?c4 ?c5 ?_))
      case c1 =>
        intro j u hj
        match j, hj with
        | 0, hj => simp at hj; subst hj; first | (simp [icell]; done) | (simp [icell, Addr.add]; done)
      case c2 => first | rfl | (intro u hu; simp at hu; subst hu; rfl)
      case c3 => rw [outS_len]; unfold maxLen; (try simp); omega
      case c4 => rw [outS_len]; (try simp); omega
      case c5 => (try simp); omega
      intro v' w3 hown3 hgrow _
      have hB3 : Below w.heap.size w2 w3 := ((Below.refl w.heap.size w2).alloc hBr _).grown hgrow (by simp; omega) hne
      have hR3 : IRow w3 w.heap.size v' (outS r (k + 1)) := by
        unfold IRow
        rw [outS_succ, HX.out]
        simp only [List.length_append, List.map_append, List.length_cons, List.length_nil, List.map_cons, List.map_nil]
        exact hown3
      have HR3 := Lib.hid (show TvG w w3 d S r v' (k + 1) from ⟨hR3, hR2.farB hB3 hroom, hb2.ofB hB3 (Nat.le_refl _)⟩)
      clear hown3 hgrow hR3 hB3 hR hR2 hB2 hb2 hbel hrow hne
      go_wp2
      go_roundw
      case rel => exact ⟨k + 1, by omega, by go_num, HR3.out⟩
      case measure => simp [intOf]; omega
    · obtain rfl : k = n := by omega
      have hlt2 : ¬ (k : Int) < (k : Int) := by omega
      have hNs := R.row.ns (fun m hm => by
        obtain ⟨i, _, rfl⟩ := List.mem_map.1 (show m ∈ (List.range k).map (numS r) from hm)
        have := numS_bounds r i; omega) (by rw [outS_len]; omega)
      have k3 := rright_is _ _ wr hNs
      obtain ⟨rt, hrt⟩ : ∃ x, sameL (outS r k) (plainL (outS r k)) = x := ⟨_, rfl⟩
      rw [hrt] at k3
      have HRT := Lib.hid hrt
      obtain ⟨st, hst⟩ : ∃ x, stp r k = x := ⟨_, rfl⟩
      have hrs := R.rs
      rw [hst] at hrs
      have hb := R.bel
      have HST := Lib.hid hst
      have HNS := Lib.hid hNs
      obtain ⟨r2, b2⟩ := st
      have HOB := Lib.hid (fun (q : Nat) (hq : (Value.slice a1 k cc1).ownBlock = some q) => (World.ownsRow.lt R.row q hq).1)
      clear R hrt hst hlt hk hNs
      cases b2 with
      | true =>
        go_wp2_with (first
          | (go_at_call 51; (with_reducible refine k3.mono ?_); rintro e w4 ⟨rfl, hb4⟩; have hr4 := hrs.below hb4; have hs4 := hr4; obtain ⟨aa, bad, ⟨c0, c1, c2, f0, f1, f2⟩, rfl, -⟩ := hs4))
        go_ret
        exact ⟨_, rfl, (but_bel hb hb4).setCell _ _, Or.inr ⟨fun h => (by have := h.1; rw [HST.out] at this; cases this), rfl, hr4.spoil⟩⟩
      | false =>
        cases rt with
        | false =>
          go_wp2_with (first
            | (go_at_call 51; (with_reducible refine k3.mono ?_); rintro e w4 ⟨rfl, hb4⟩; have hr4 := hrs.below hb4; have hs4 := hr4; obtain ⟨aa, bad, ⟨c0, c1, c2, f0, f1, f2⟩, rfl, -⟩ := hs4))
          go_ret
          exact ⟨_, rfl, (but_bel hb hb4).setCell _ _, Or.inr ⟨fun h => (by have e := HRT.out; unfold sameL at e; simp at e; exact e h.2), rfl, hr4.spoil⟩⟩
        | true =>
          go_wp2_with (first
            | (go_at_call 51; (with_reducible refine k3.mono ?_); rintro e w4 ⟨rfl, hb4⟩; have hr4 := hrs.below hb4; have hs4 := hr4; obtain ⟨aa, bad, ⟨c0, c1, c2, f0, f1, f2⟩, rfl, -⟩ := hs4))
          go_ret
          exact ⟨_, rfl, but_bel hb hb4, Or.inl ⟨by rw [HST.out], by have e := HRT.out; unfold sameL at e; simpa using e, HNS.out.later hb4, HOB.out, by rw [HST.out]; exact hr4⟩⟩


/-- Of a broken reader no vector comes. -/
theorem rtv_bad (d : Nat) (S : ByteArray) (w : World) (hs : S.size ≤ 100000) (h : RS w d S ⟨#[]⟩ true) : Calls Try.prog 67 #[.pointer (some ⟨d, 0, none⟩)] w fun e w' => e = .returned (.slice none 0 0) ∧ But d w w' ∧ RS w' d S ⟨#[]⟩ true := by
  have k1 := rsmall_is d S ⟨#[]⟩ ⟨#[]⟩ true true 0 8 w hs (by omega) (Lib.hid rfl) h
  have hroom := h.room
  clear h
  go_enter Try.func67, Try.ntmps67
  go_wp2_with (first
    | (go_at_call 63; (with_reducible refine k1.mono ?_); rintro e w1 ⟨rfl, hR, hB⟩))
  have k3 := fun w => rright_is (.slice none 0 0) [] w ((Nums.nil w none 0).mono (Nat.zero_le _) (Nat.le_refl _))
  have e0 : sameL [] (plainL []) = true := by decide
  rw [e0] at k3
  go_loopw [4, 5] (fun o i wr => o = .slice none 0 0 ∧ i = .int .i64 0 ∧ w1 = wr) (fun _ _ _ => 0)
  case atStart => exact ⟨rfl, rfl, rfl⟩
  case round =>
    obtain ⟨rfl, rfl, rfl⟩ := hrel
    go_wp2_with (first
      | (go_at_call 51; (with_reducible refine (k3 _).mono ?_); rintro e w4 ⟨rfl, hb4⟩; have hr4 := hR.below hb4; have hs4 := hr4; obtain ⟨aa, bad, ⟨c0, c1, c2, f0, f1, f2⟩, rfl, -⟩ := hs4))
    go_ret
    exact ⟨rfl, (but_bel hB hb4).setCell _ _, hr4.spoil⟩
end Go.Proofs.Ytjckphmkhikpaaa
