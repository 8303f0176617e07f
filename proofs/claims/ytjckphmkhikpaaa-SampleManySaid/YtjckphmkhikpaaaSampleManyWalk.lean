/- The walk of law SampleMany: it returns true and turns nothing that was there. -/
import Derived.Test.YtjckphmkhikpaaaSampleAwake
import Derived.Test.YtjckphmkhikpaaaSamplePPoints
import Derived.Test.YtjckphmkhikpaaaSampleListP
import Derived.Test.YtjckphmkhikpaaaSampleSameP
import Derived.BigQuiet
set_option maxRecDepth 50000
namespace Go.Proofs.Ytjckphmkhikpaaa.sampleMany
open Go.RowKit Go.Proofs.Ytjckphmkhikpaaa Go.Proofs.Ytjckphmkhikpaaa.Vi Go.Proofs.Ytjckphmkhikpaaa.Mk

def manyP (i : Nat) : Pt := ⟨⟨#[97]⟩, (i : Int), 0, ⟨1, 0, 1⟩⟩
def manyL (n : Nat) : List Pt := (List.range n).map manyP
theorem manyL_len (n : Nat) : (manyL n).length = n := by unfold manyL; simp
theorem manyL_succ (n : Nat) : manyL (n + 1) = manyL n ++ [manyP n] := by unfold manyL; rw [List.range_succ, List.map_append]; rfl
theorem manyP_ok (i : Nat) (h : i ≤ 2000) : (manyP i).ok = true := by
  unfold Pt.ok manyP
  simp only
  rw [show nameB ⟨#[97]⟩ = true by decide, show St.ok ⟨1, 0, 1⟩ = true by decide, decide_eq_true (by omega)]; rfl
theorem manyL_mem {n : Nat} {p : Pt} (h : p ∈ manyL n) : ∃ i, i < n ∧ p = manyP i := by
  obtain ⟨i, hi, rfl⟩ := List.mem_map.1 (show p ∈ (List.range n).map manyP from h)
  exact ⟨i, List.mem_range.1 hi, rfl⟩
theorem manyP_len (i : Nat) (h : i ≤ 2000) : (manyP i).bytes.length ≤ 61 := by
  have a1 := enc_len10 1 (by omega)
  have a2 := enc_len10 i (by omega)
  have a3 := enc_len10 (zig 0).toNat (by decide)
  have a4 := st_bytes_len ⟨1, 0, 1⟩
  have e : (manyP i).bytes = (enc 1 ++ [97]) ++ enc i ++ enc (zig 0).toNat ++ St.bytes ⟨1, 0, 1⟩ := rfl
  rw [e]
  simp only [List.length_append, List.length_cons, List.length_nil]
  omega
theorem bytes_many (l : List Pt) (h : ∀ p ∈ l, p.bytes.length ≤ 61) : (bytesP l).length ≤ 61 * l.length := by
  induction l with
  | nil => simp [bytesP]
  | cons a t ih =>
    have h1 := h a (List.mem_cons_self ..)
    have h2 := ih fun p hp => h p (List.mem_cons_of_mem _ hp)
    have e : bytesP (a :: t) = a.bytes ++ bytesP t := by simp [bytesP]
    rw [e, List.length_append, List.length_cons]; omega

set_option maxHeartbeats 16000000 in
theorem up_yes (n : Int) (K : Nat) (w : World) (_ : -9223372036854775808 ≤ n ∧ n ≤ 9223372036854775807) (hK : K ≤ 20) (hx : n.tmod 21 = (K : Int)) : Calls Try.prog 8 #[.int .i64 n] w fun e w' => e = .returned (.bool true) ∧ Below w.heap.size w w' := by
  obtain ⟨i0, hi, hz0, hz1, hz2⟩ := info_parts infoP
  have hneg : ¬ (K : Int) < 0 := by omega
  go_enter Try.func8, Try.ntmps8
  go_wp2_with (first
    | (go_at_call 9; (with_reducible refine (awake_any _).mono ?_); rintro e w1 ⟨rfl, hb1⟩))
  have HB1 := Lib.hid hb1
  clear hb1
  go_loopw [5, 6] (fun o i wr => ∃ (k : Nat), k ≤ 990 + K ∧ i = .int .i64 (k : Int) ∧ PRow wr w1.heap.size o (manyL k) ∧ Below w1.heap.size w1 wr) (fun _ i _ => 990 + K - (intOf i).toNat)
  case atStart => exact ⟨0, by omega, rfl, PRow.nil _ _, Below.refl _ _⟩
  case round =>
    obtain ⟨k, hk, rfl, hR, hB⟩ := hrel
    obtain ⟨a5, c5, rfl⟩ := hR.slice
    have hrow : wr.ownsRow w1.heap.size 34 6 (.slice a5 k c5) k ((manyL k).flatMap cells6) := by have := hR; unfold PRow at this; rw [manyL_len] at this; exact this
    by_cases hlt : k < 990 + K
    · have hlti : (k : Int) < 990 + (K : Int) := by omega
      have hBr := hB.size
      have HROW := Lib.hid hrow
      have HBB := Lib.hid hB
      have hown : ∀ q, (Value.slice a5 k c5).ownBlock = some q → w1.heap.size ≤ q := fun q hq => (World.ownsRow.lt hrow q hq).1
      have HOWN := Lib.hid hown
      rw [manyL_len]
      clear hR hrow hB hown
      go_wp2_with (first
        | (at_builtin; refine wpList_append_own _ rfl _ _ 42 rfl w1.heap.size 34 i0 (.agg #[.string ⟨#[]⟩, .int .i64 0, .int .i64 0, .int .i64 0, .int .i64 0, .int .i64 0]) 6 56 Try.underlying42 hi hz0 hz1 hz2 rfl (by decide) _ _ _ rfl (HROW.out.alloc _) ⟨wr.heap.size, 0, none⟩ 1 1 (cells6 (manyP k)) rfl rfl ?c1 ?c2 ?c3 ?c4 ?c5 ?_))
      case c1 =>
        intro j u hj
        match j, hj with
        | 0, hj | 1, hj | 2, hj | 3, hj | 4, hj | 5, hj => simp [cells6, manyP] at hj; subst hj; first | (simp [Addr.add]; done) | (simp; done)
      case c2 => intro u hu; simp [cells6, manyP] at hu; rcases hu with rfl | rfl | rfl | rfl | rfl | rfl <;> rfl
      case c3 => unfold maxLen; (try simp); omega
      case c4 => (try simp); omega
      case c5 => (try simp); omega
      intro v' w3 hown3 hgrow _
      have hB3 := HBB.out.trans (((Below.refl w1.heap.size wr).alloc hBr _).grown hgrow (by simp; omega) HOWN.out)
      have hR3 : PRow w3 w1.heap.size v' (manyL (k + 1)) := by
        unfold PRow
        rw [manyL_succ, List.length_append, List.flatMap_append, manyL_len]
        simpa [cells6, manyP] using hown3
      have HR3 := Lib.hid hR3
      have HB3 := Lib.hid hB3
      clear hown3 hgrow hR3 hB3
      go_wp2
      go_roundw
      case rel => exact ⟨k + 1, by omega, by go_num, HR3.out, HB3.out⟩
      case measure => simp [intOf]; omega
    · have hlti : ¬ (k : Int) < 990 + (K : Int) := by omega
      have hkN : k = 990 + K := by omega
      have hkm : k ≤ 1010 := by omega
      have hfit : ∀ p ∈ manyL k, p.s.size ≤ 1000000 ∧ p.vfit := fun p hp => by
        obtain ⟨i, -, rfl⟩ := manyL_mem hp
        exact ⟨by show (⟨#[97]⟩ : ByteArray).size ≤ _; decide, by unfold Pt.vfit manyP; simp⟩
      have kP := fun w h => points_is a5 c5 (manyL k) w h (by rw [manyL_len]; omega) hfit
      unfold PointsDone at kP
      have hok : ∀ j (hj : j < (manyL k).length), ((manyL k)[j]).ok = true := fun j hj => by
        obtain ⟨i, hi, e⟩ := manyL_mem (List.getElem_mem hj)
        rw [e]; exact manyP_ok i (by omega)
      have hP := hR.pts
      have HR := Lib.hid hR
      have HB := Lib.hid (HB1.out.trans (hB.mono HB1.out.size))
      by_cases hK10 : 10 < K
      · have hKi : (10 : Int) < (K : Int) := by omega
        have hA : ptsA (manyL k) = (⟨#[]⟩, 11) := ptsA_many hok (by rw [manyL_len]; omega)
        rw [hA, manyL_len] at kP
        rw [manyL_len]
        dsimp only at kP
        clear hrow hR hB hfit hok hkN hA
        go_wp2_with (first
          | (go_at_call 27; (with_reducible refine (kP _ hP).mono ?_); rintro e w4 ⟨rfl, hb4⟩))
        go_ret
        exact ⟨rfl, bel_next HB.out hb4⟩
      · have hKi : ¬ (10 : Int) < (K : Int) := by omega
        obtain ⟨M, rfl⟩ : ∃ M, k = M + 1 := ⟨k - 1, by omega⟩
        have hM : M ≤ 999 := by omega
        have hstop : ¬ (M : Int) + 1 < 990 + (K : Int) := by omega
        have hA : ptsA (manyL (M + 1)) = (tx (ptsB (manyL (M + 1))), 0) := ptsA_yes hok (by rw [manyL_len]; omega)
        obtain ⟨S, hS⟩ : ∃ S, tx (ptsB (manyL (M + 1))) = S := ⟨_, rfl⟩
        have hSz : S.size ≤ 100000 := by
          have h1 := bytes_many (manyL (M + 1)) fun p hp => by
            obtain ⟨i, hi, rfl⟩ := manyL_mem hp
            exact manyP_len i (by omega)
          have h2 := enc_len10 (manyL (M + 1)).length (by rw [manyL_len]; omega)
          rw [← hS, tx_size]; unfold ptsB; rw [List.length_append]
          rw [manyL_len] at h1 h2 ⊢
          omega
        have hpq : ptsQ S = some (manyL (M + 1)) := by
          rw [← hS]
          exact ptsQ_enc _ (by rw [manyL_len]; omega) fun p hp => by
            obtain ⟨i, hi, rfl⟩ := manyL_mem hp
            exact ⟨manyP_ok i (by omega), by unfold Pt.vfit manyP; simp⟩
        have kR := fun w => readpoints_is S w hSz
        unfold RPDone at kR
        rw [hpq] at kR
        rw [hA, manyL_len, hS] at kP
        dsimp only [Option.getD_some, Option.isSome_some] at kR
        rw [if_pos rfl] at kR
        rw [manyL_len]
        dsimp only at kP
        clear hrow hR hB hfit hok hkN hA hS hSz hpq hkm hlt hlti hk
        go_wp2_with (first
          | (go_at_call 27; (with_reducible refine (kP _ hP).mono ?_); rintro e w4 ⟨rfl, hb4⟩; have hR4 := HR.out.later hb4; have hB4 := bel_next HB.out hb4)
          | (go_at_call 22; (with_reducible refine (kR _).mono ?_); rintro e w5 ⟨v, rfl, hR5, hb5⟩; obtain ⟨a6, c6, rfl⟩ := hR5.slice; have hR4' := hR4.later hb5; have hB5 := bel_next hB4 hb5))
        rw [manyL_len] at hR4' hR5 ⊢
        have hP4 := hR4'.pts
        have hP5 := hR5.pts
        clear hP HR hR4 hR4' hR5 hB4 hb5 hb4
        have hml := manyL_len (M + 1)
        rcases hP4.at_ with h0 | ⟨b, off, rfl, -, hc⟩
        · rw [h0] at hml; simp at hml
        rcases hP5.at_ with h0 | ⟨b2, off2, rfl, -, hc2⟩
        · rw [h0] at hml; simp at hml
        obtain ⟨c0, c1, c2, c3, c4, c5⟩ := hc M (by rw [hml]; omega)
        obtain ⟨d0, d1, d2, d3, d4, d5⟩ := hc2 M (by rw [hml]; omega)
        obtain ⟨p, hp⟩ : ∃ p, (manyL (M + 1))[M]'(by rw [hml]; omega) = p := ⟨_, rfl⟩
        rw [hp] at c0 c1 c2 c3 c4 c5 d0 d1 d2 d3 d4 d5
        have qe := fun w => eql_run6 p p w
        rw [Pt.same_iff.2 rfl] at qe
        unfold ptV at qe
        have HB5 := Lib.hid hB5
        clear hc hc2 hp hml hP4 hP5 hB5
        go_wp2_with fail
        skip
        go_quiet (fail)
        go_wp2
        go_ret
        exact ⟨rfl, by first | exact HB5.out | exact HB5.out.drew | exact below_drewN HB5.out _⟩
set_option maxHeartbeats 16000000 in
theorem up_no (n : Int) (K : Nat) (w : World) (_ : -9223372036854775808 ≤ n ∧ n ≤ 9223372036854775807) (hK : K ≤ 20) (hx : n.tmod 21 = -(K : Int)) (hp : 0 < K) : Calls Try.prog 8 #[.int .i64 n] w fun e w' => e = .returned (.bool true) ∧ Below w.heap.size w w' := by
  obtain ⟨i0, hi, hz0, hz1, hz2⟩ := info_parts infoP
  have hneg : -(K : Int) < 0 := by omega
  go_enter Try.func8, Try.ntmps8
  go_wp2_with (first
    | (go_at_call 9; (with_reducible refine (awake_any _).mono ?_); rintro e w1 ⟨rfl, hb1⟩))
  have HB1 := Lib.hid hb1
  clear hb1
  go_loopw [5, 6] (fun o i wr => ∃ (k : Nat), k ≤ 990 + K ∧ i = .int .i64 (k : Int) ∧ PRow wr w1.heap.size o (manyL k) ∧ Below w1.heap.size w1 wr) (fun _ i _ => 990 + K - (intOf i).toNat)
  case atStart => exact ⟨0, by omega, rfl, PRow.nil _ _, Below.refl _ _⟩
  case round =>
    obtain ⟨k, hk, rfl, hR, hB⟩ := hrel
    obtain ⟨a5, c5, rfl⟩ := hR.slice
    have hrow : wr.ownsRow w1.heap.size 34 6 (.slice a5 k c5) k ((manyL k).flatMap cells6) := by have := hR; unfold PRow at this; rw [manyL_len] at this; exact this
    by_cases hlt : k < 990 + K
    · have hlti : (k : Int) < 990 + (K : Int) := by omega
      have hBr := hB.size
      have HROW := Lib.hid hrow
      have HBB := Lib.hid hB
      have hown : ∀ q, (Value.slice a5 k c5).ownBlock = some q → w1.heap.size ≤ q := fun q hq => (World.ownsRow.lt hrow q hq).1
      have HOWN := Lib.hid hown
      rw [manyL_len]
      clear hR hrow hB hown
      go_wp2_with (first
        | (at_builtin; refine wpList_append_own _ rfl _ _ 42 rfl w1.heap.size 34 i0 (.agg #[.string ⟨#[]⟩, .int .i64 0, .int .i64 0, .int .i64 0, .int .i64 0, .int .i64 0]) 6 56 Try.underlying42 hi hz0 hz1 hz2 rfl (by decide) _ _ _ rfl (HROW.out.alloc _) ⟨wr.heap.size, 0, none⟩ 1 1 (cells6 (manyP k)) rfl rfl ?c1 ?c2 ?c3 ?c4 ?c5 ?_))
      case c1 =>
        intro j u hj
        match j, hj with
        | 0, hj | 1, hj | 2, hj | 3, hj | 4, hj | 5, hj => simp [cells6, manyP] at hj; subst hj; first | (simp [Addr.add]; done) | (simp; done)
      case c2 => intro u hu; simp [cells6, manyP] at hu; rcases hu with rfl | rfl | rfl | rfl | rfl | rfl <;> rfl
      case c3 => unfold maxLen; (try simp); omega
      case c4 => (try simp); omega
      case c5 => (try simp); omega
      intro v' w3 hown3 hgrow _
      have hB3 := HBB.out.trans (((Below.refl w1.heap.size wr).alloc hBr _).grown hgrow (by simp; omega) HOWN.out)
      have hR3 : PRow w3 w1.heap.size v' (manyL (k + 1)) := by
        unfold PRow
        rw [manyL_succ, List.length_append, List.flatMap_append, manyL_len]
        simpa [cells6, manyP] using hown3
      have HR3 := Lib.hid hR3
      have HB3 := Lib.hid hB3
      clear hown3 hgrow hR3 hB3
      go_wp2
      go_roundw
      case rel => exact ⟨k + 1, by omega, by go_num, HR3.out, HB3.out⟩
      case measure => simp [intOf]; omega
    · have hlti : ¬ (k : Int) < 990 + (K : Int) := by omega
      have hkN : k = 990 + K := by omega
      have hkm : k ≤ 1010 := by omega
      have hfit : ∀ p ∈ manyL k, p.s.size ≤ 1000000 ∧ p.vfit := fun p hp => by
        obtain ⟨i, -, rfl⟩ := manyL_mem hp
        exact ⟨by show (⟨#[97]⟩ : ByteArray).size ≤ _; decide, by unfold Pt.vfit manyP; simp⟩
      have kP := fun w h => points_is a5 c5 (manyL k) w h (by rw [manyL_len]; omega) hfit
      unfold PointsDone at kP
      have hok : ∀ j (hj : j < (manyL k).length), ((manyL k)[j]).ok = true := fun j hj => by
        obtain ⟨i, hi, e⟩ := manyL_mem (List.getElem_mem hj)
        rw [e]; exact manyP_ok i (by omega)
      have hP := hR.pts
      have HR := Lib.hid hR
      have HB := Lib.hid (HB1.out.trans (hB.mono HB1.out.size))
      by_cases hK10 : 10 < K
      · have hKi : (10 : Int) < (K : Int) := by omega
        have hA : ptsA (manyL k) = (⟨#[]⟩, 11) := ptsA_many hok (by rw [manyL_len]; omega)
        rw [hA, manyL_len] at kP
        rw [manyL_len]
        dsimp only at kP
        clear hrow hR hB hfit hok hkN hA
        go_wp2_with (first
          | (go_at_call 27; (with_reducible refine (kP _ hP).mono ?_); rintro e w4 ⟨rfl, hb4⟩))
        go_ret
        exact ⟨rfl, bel_next HB.out hb4⟩
      · have hKi : ¬ (10 : Int) < (K : Int) := by omega
        obtain ⟨M, rfl⟩ : ∃ M, k = M + 1 := ⟨k - 1, by omega⟩
        have hM : M ≤ 999 := by omega
        have hstop : ¬ (M : Int) + 1 < 990 + (K : Int) := by omega
        have hA : ptsA (manyL (M + 1)) = (tx (ptsB (manyL (M + 1))), 0) := ptsA_yes hok (by rw [manyL_len]; omega)
        obtain ⟨S, hS⟩ : ∃ S, tx (ptsB (manyL (M + 1))) = S := ⟨_, rfl⟩
        have hSz : S.size ≤ 100000 := by
          have h1 := bytes_many (manyL (M + 1)) fun p hp => by
            obtain ⟨i, hi, rfl⟩ := manyL_mem hp
            exact manyP_len i (by omega)
          have h2 := enc_len10 (manyL (M + 1)).length (by rw [manyL_len]; omega)
          rw [← hS, tx_size]; unfold ptsB; rw [List.length_append]
          rw [manyL_len] at h1 h2 ⊢
          omega
        have hpq : ptsQ S = some (manyL (M + 1)) := by
          rw [← hS]
          exact ptsQ_enc _ (by rw [manyL_len]; omega) fun p hp => by
            obtain ⟨i, hi, rfl⟩ := manyL_mem hp
            exact ⟨manyP_ok i (by omega), by unfold Pt.vfit manyP; simp⟩
        have kR := fun w => readpoints_is S w hSz
        unfold RPDone at kR
        rw [hpq] at kR
        rw [hA, manyL_len, hS] at kP
        dsimp only [Option.getD_some, Option.isSome_some] at kR
        rw [if_pos rfl] at kR
        rw [manyL_len]
        dsimp only at kP
        clear hrow hR hB hfit hok hkN hA hS hSz hpq hkm hlt hlti hk
        go_wp2_with (first
          | (go_at_call 27; (with_reducible refine (kP _ hP).mono ?_); rintro e w4 ⟨rfl, hb4⟩; have hR4 := HR.out.later hb4; have hB4 := bel_next HB.out hb4)
          | (go_at_call 22; (with_reducible refine (kR _).mono ?_); rintro e w5 ⟨v, rfl, hR5, hb5⟩; obtain ⟨a6, c6, rfl⟩ := hR5.slice; have hR4' := hR4.later hb5; have hB5 := bel_next hB4 hb5))
        rw [manyL_len] at hR4' hR5 ⊢
        have hP4 := hR4'.pts
        have hP5 := hR5.pts
        clear hP HR hR4 hR4' hR5 hB4 hb5 hb4
        have hml := manyL_len (M + 1)
        rcases hP4.at_ with h0 | ⟨b, off, rfl, -, hc⟩
        · rw [h0] at hml; simp at hml
        rcases hP5.at_ with h0 | ⟨b2, off2, rfl, -, hc2⟩
        · rw [h0] at hml; simp at hml
        obtain ⟨c0, c1, c2, c3, c4, c5⟩ := hc M (by rw [hml]; omega)
        obtain ⟨d0, d1, d2, d3, d4, d5⟩ := hc2 M (by rw [hml]; omega)
        obtain ⟨p, hp⟩ : ∃ p, (manyL (M + 1))[M]'(by rw [hml]; omega) = p := ⟨_, rfl⟩
        rw [hp] at c0 c1 c2 c3 c4 c5 d0 d1 d2 d3 d4 d5
        have qe := fun w => eql_run6 p p w
        rw [Pt.same_iff.2 rfl] at qe
        unfold ptV at qe
        have HB5 := Lib.hid hB5
        clear hc hc2 hp hml hP4 hP5 hB5
        go_wp2_with fail
        skip
        go_quiet (fail)
        go_wp2
        go_ret
        exact ⟨rfl, by first | exact HB5.out | exact HB5.out.drew | exact below_drewN HB5.out _⟩
theorem walk (n : Int) (w : World) (hn : -9223372036854775808 ≤ n ∧ n ≤ 9223372036854775807) : Calls Try.prog 8 #[.int .i64 n] w fun e w' => e = .returned (.bool true) ∧ Below w.heap.size w w' := by
  have h1 : -20 ≤ n.tmod 21 ∧ n.tmod 21 ≤ 20 := by
    have := Int.tmod_lt_of_pos n (show (0 : Int) < 21 by omega)
    have := Int.lt_tmod_of_pos n (show (0 : Int) < 21 by omega)
    omega
  by_cases h : 0 ≤ n.tmod 21
  · exact up_yes n (n.tmod 21).toNat w hn (by omega) (by omega)
  · exact up_no n (-(n.tmod 21)).toNat w hn (by omega) (by omega) (by omega)
end Go.Proofs.Ytjckphmkhikpaaa.sampleMany
