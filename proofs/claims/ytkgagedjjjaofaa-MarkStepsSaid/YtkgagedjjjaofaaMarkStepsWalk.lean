/- The walk of law MarkSteps: it returns true and turns nothing that was there. -/
import Derived.Test.YtkgagedjjjaofaaMarkArgs
import Derived.Test.YtkgagedjjjaofaaMarkLatMath
namespace Go.Proofs.Ytkgagedjjjaofaa.markSteps
open Go.RowKit Go.Proofs.Ytkgagedjjjaofaa Go.Proofs.Ytkgagedjjjaofaa.Vi Go.Proofs.Ytkgagedjjjaofaa.Mk

set_option maxHeartbeats 8000000 in
theorem core (u : Value) (l0 : List Int) (site : Int) (k : Nat) (w : World) (h : ArgNs w u l0) (_hs : -9223372036854775808 ≤ site ∧ site ≤ 9223372036854775807) (hk : k < 8) (q : Int) (hq0 : site.tmod 8 = q) (hq : q < 0 ∧ (k : Int) = -q ∨ 0 ≤ q ∧ (k : Int) = q) :
    Calls Try.prog 8 #[u, .int .i64 site] w fun e w' => e = .returned (.bool true) ∧ Below w.heap.size w w' := by
  obtain ⟨l, hl⟩ : ∃ l, l0.take 12 = l := ⟨_, rfl⟩
  have f1 := fun w h' => fewN u l0 w h' h.cap
  rw [hl] at f1
  have G1 := h.ns
  obtain ⟨n, hn⟩ : ∃ n, atL l (k : Int) = n := ⟨_, rfl⟩
  have hnb := atL_bounds l (k : Int)
  rw [hn] at hnb
  obtain ⟨n0, n1⟩ := hnb
  have a1 : ∀ v w, Ns w v l → Calls Try.prog 33 #[v, .int .i64 (k : Int)] w fun e w' => e = .returned (.int .i64 n) ∧ w = w' := fun v w h => by
    have := atN v l (k : Int) w h (by omega)
    rw [hn] at this; exact this
  obtain ⟨m, hm⟩ : ∃ m, withL l (k : Int) (n + 1) = m := ⟨_, rfl⟩
  have b1 := fun v w h => withN v l (k : Int) (n + 1) w h
  rw [hm] at b1
  have AT := Lib.hid (fun x => step_at l k hk x n hn)
  obtain ⟨z, hz⟩ : ∃ z : Int, (if n < 1099511627776 then 1 else 0) = z := ⟨_, rfl⟩
  have c1 : ∀ v1 v2 w, Ns w v1 m → Ns w v2 l → Calls Try.prog 37 #[v1, v2] w fun e w' => e = .returned (.int .i64 z) ∧ w = w' := fun v1 v2 w h1 h2 => by
    have := compareN v1 v2 m l w h1 h2
    rw [← hm, step_cmp l k hk n hn, hz] at this; exact this
  have r1 : ∀ v w, Ns w v m → Calls Try.prog 31 #[v] w fun e w' => e = .returned (.bool true) ∧ Below w.heap.size w w' := fun v w h => by
    have := rightN v m w h
    rw [← hm, plain_with, sameL_self] at this; exact this
  have HZ := Lib.hid hz
  rw [hm] at AT
  clear hl hn hm hz h
  have HK := Lib.hid hk
  rcases hq with ⟨hq1, hq2⟩ | ⟨hq1, hq2⟩
  all_goals
    go_enter Try.func8, Try.ntmps8
    go_wp2_with (first
      | (go_at_call 10; (with_reducible refine (awake_any _).mono ?_); rintro e w1 ⟨rfl, hb⟩; have G1 := G1.later hb; have B0 := hb)
      | (go_at_call 23; (with_reducible refine (f1 _ G1).mono ?_); rintro e wn ⟨va, rfl, Ga, rfl⟩)
      | (go_at_call 33; (rw [← hq2]; with_reducible refine (a1 _ _ Ga).mono ?_); rintro e wn ⟨rfl, rfl⟩)
      | (go_at_call 29; (rw [← hq2]; with_reducible refine (b1 _ _ Ga).mono ?_); rintro e w2 hz; obtain ⟨vm, rfl, Gm, hb⟩ := hz.ns; have Ga := Ga.later hb; have B1 := bel_next B0 hb))
    rw [← hq2]
    have GA := Lib.hid Ga
    have GM := Lib.hid Gm
    have BB := Lib.hid B1
    clear hq1 hq2 hq0 f1 a1 b1 hb Ga Gm G1 B0 B1
    go_loopw [9] (fun i wr => ∃ x : Int, -1 ≤ x ∧ x ≤ 9 ∧ i = .int .i64 x ∧ w2 = wr) (fun i _ => (9 - intOf i).toNat)
    case atStart => exact ⟨-1, by omega, by omega, rfl, rfl⟩
    case round =>
      obtain ⟨x, hx1, hx2, rfl, rfl⟩ := hrel
      by_cases hx9 : x < 9
      · have av := atN va l x w2 GA.out (by omega)
        have am := atN vm m x w2 GM.out (by omega)
        rw [AT.out x] at am
        by_cases hxk : x = (k : Int)
        · by_cases hn2 : n < 1099511627776
          · rw [if_pos ⟨hxk, hn2⟩] at am
            have hxq : (x == (k : Int)) = true := by simpa using hxk
            clear hxk
            go_wp2_with (first
              | (go_at_call 33; (with_reducible refine av.mono ?_); rintro e wn ⟨rfl, rfl⟩)
              | (go_at_call 33; (with_reducible refine am.mono ?_); rintro e wn ⟨rfl, rfl⟩))
            go_roundw
            case rel => exact ⟨x + 1, by omega, by omega, by go_num, by first | rfl | trivial⟩
            case measure => simp [intOf]; omega
          · rw [if_neg (fun h => hn2 h.2)] at am
            have hxq : (x == (k : Int)) = true := by simpa using hxk
            obtain ⟨y, hy⟩ : ∃ y, atL l x = y := ⟨_, rfl⟩
            rw [hy] at av am
            clear hxk hy
            go_wp2_with (first
              | (go_at_call 33; (with_reducible refine av.mono ?_); rintro e wn ⟨rfl, rfl⟩)
              | (go_at_call 33; (with_reducible refine am.mono ?_); rintro e wn ⟨rfl, rfl⟩))
            go_roundw
            case rel => exact ⟨x + 1, by omega, by omega, by go_num, by first | rfl | trivial⟩
            case measure => simp [intOf]; omega
        · rw [if_neg (fun h => hxk h.1)] at am
          have hxq : (x == (k : Int)) = false := by simpa using hxk
          obtain ⟨y, hy⟩ : ∃ y, atL l x = y := ⟨_, rfl⟩
          rw [hy] at av am
          clear hxk hy
          go_wp2_with (first
            | (go_at_call 33; (with_reducible refine av.mono ?_); rintro e wn ⟨rfl, rfl⟩)
            | (go_at_call 33; (with_reducible refine am.mono ?_); rintro e wn ⟨rfl, rfl⟩))
          go_roundw
          case rel => exact ⟨x + 1, by omega, by omega, by go_num, by first | rfl | trivial⟩
          case measure => simp [intOf]; omega
      · have cc := c1 vm va w2 GM.out GA.out
        have rr := fun w h => r1 vm w h
        have Gm := GM.out
        by_cases hn2 : n < 1099511627776
        · have e1 := HZ.out
          rw [if_pos hn2] at e1
          subst e1
          have e2 : ¬ 1099511627776 ≤ n := by omega
          clear c1 r1
          go_wp2_with (first
            | (go_at_call 37; (with_reducible refine cc.mono ?_); rintro e wn ⟨rfl, rfl⟩)
            | (go_at_call 31; (with_reducible refine (rr _ Gm).mono ?_); rintro e wn ⟨rfl, hbr⟩))
          go_ret
          exact ⟨rfl, bel_next BB.out hbr⟩
        · have e1 := HZ.out
          rw [if_neg hn2] at e1
          subst e1
          have e2 : 1099511627776 ≤ n := by omega
          clear c1 r1
          go_wp2_with (first
            | (go_at_call 37; (with_reducible refine cc.mono ?_); rintro e wn ⟨rfl, rfl⟩)
            | (go_at_call 31; (with_reducible refine (rr _ Gm).mono ?_); rintro e wn ⟨rfl, hbr⟩))
          go_ret
          exact ⟨rfl, bel_next BB.out hbr⟩

theorem walk (a0 : Option Addr) (len0 cap0 : Nat) (site : Int) (w : World) (h : ArgInts w a0 len0 cap0) (hs : -9223372036854775808 ≤ site ∧ site ≤ 9223372036854775807) :
    Calls Try.prog 8 #[.slice a0 len0 cap0, .int .i64 site] w fun e w' => e = .returned (.bool true) ∧ Below w.heap.size w w' := by
  obtain ⟨l, H⟩ := argNs_of h
  have h1 := Int.tmod_lt_of_pos site (show (0 : Int) < 8 by omega)
  have h2 := Int.lt_tmod_of_pos site (show (0 : Int) < 8 by omega)
  by_cases hq : site.tmod 8 < 0
  · exact core _ l site (-(site.tmod 8)).toNat w H hs (by omega) _ rfl (Or.inl ⟨hq, by omega⟩)
  · exact core _ l site (site.tmod 8).toNat w H hs (by omega) _ rfl (Or.inr ⟨by omega, by omega⟩)
end Go.Proofs.Ytkgagedjjjaofaa.markSteps
