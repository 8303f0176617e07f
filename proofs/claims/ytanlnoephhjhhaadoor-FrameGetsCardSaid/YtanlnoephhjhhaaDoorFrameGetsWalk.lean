/- The walk of law FrameGets: it returns true and turns nothing that was there. -/
import Derived.Test.YtanlnoephhjhhaaDoorFrameAwake
import Derived.Test.YtanlnoephhjhhaaDoorFrameHelp
import Derived.Test.YtanlnoephhjhhaaDoorFrameRScan
namespace Go.Proofs.YtanlnoephhjhhaaDoor.frameGets
open Go.RowKit Go.Proofs.YtanlnoephhjhhaaDoor Go.Proofs.YtanlnoephhjhhaaDoor.Vi Go.Proofs.YtanlnoephhjhhaaDoor.Crc Go.Proofs.YtanlnoephhjhhaaDoor.Fr

set_option maxHeartbeats 8000000 in
theorem walk (s : ByteArray) (at_ : Int) (w : World) (_ : s.size ≤ maxLen) (ha : -9223372036854775808 ≤ at_ ∧ at_ ≤ 9223372036854775807) (ht : Tab w) : Calls Tryd.prog 4 #[.string s, .int .i64 at_] w fun e w' => e = .returned (.bool true) ∧ Below w.heap.size w w' := by
  have hA := awake_any w ht
  obtain ⟨T0, hT0⟩ : ∃ S, cutB s 2000 = S := ⟨_, rfl⟩
  have hT0s : T0.size ≤ 2000 := by rw [← hT0]; exact (cutB_size s 2000).1
  have ksh := fun w => short_is s T0 2000 2000 w rfl (by omega) hT0
  obtain ⟨T, hT⟩ : ∃ T, T0.data.toList = T := ⟨_, rfl⟩
  have hTT : tx T = T0 := by rw [← hT]; exact tx_list T0
  have hTl : T.length ≤ 2000 := by rw [← hT, size_list]; exact hT0s
  obtain ⟨b, hb⟩ : ∃ b, tx (getG T at_).1 = b := ⟨_, rfl⟩
  obtain ⟨n, hn⟩ : ∃ n, (getG T at_).2.1 = n := ⟨_, rfl⟩
  obtain ⟨q, hq⟩ : ∃ q, (getG T at_).2.2 = q := ⟨_, rfl⟩
  have kG := fun w ht => get_g T at_ b n q w (by omega) ha ht hb hn hq
  have kR := fun w => rget_g T at_ b n q w (by omega) ha hb hn hq
  obtain ⟨Y, hY⟩ : ∃ Y, txL (scan T).1 = Y := ⟨_, rfl⟩
  obtain ⟨K, hK⟩ : ∃ K : Int, ((scan T).2.1 : Int) = K := ⟨_, rfl⟩
  obtain ⟨U, hU⟩ : ∃ U : Int, ((scan T).2.2 : Int) = U := ⟨_, rfl⟩
  have kS := fun w ht => scan_is T Y K U w (by omega) ht hY hK hU
  have kT := fun w => rscan_is T Y K U w (by omega) hY hK hU
  rw [hTT] at kG kR kS kT
  have q1 := fun v1 v2 w (h1 : Ss w v1 Y) (h2 : Ss w v2 Y) => same_is v1 v2 Y Y w h1 h2
  rw [sameS_self] at q1
  clear hT0 hT0s hT hTT hTl hb hn hq hY hK hU
  go_enter Tryd.func4, Tryd.ntmps4
  go_wp2_with (first
    | (go_at_call 10; (with_reducible refine hA.mono ?_); rintro e w1 ⟨rfl, hb1⟩; have T1 := ht.next hb1)
    | (go_at_call 15; (with_reducible refine (ksh _).mono ?_); rintro e w2 ⟨rfl, rfl⟩)
    | (go_at_call 16; (with_reducible refine (kG _ T1).mono ?_); rintro e w3 ⟨rfl, hb3⟩; have T3 := T1.next hb3)
    | (go_at_call 17; (with_reducible refine (kR _).mono ?_); rintro e w4 ⟨rfl, hb4⟩; have T4 := T3.next hb4)
    | (go_at_call 18; (with_reducible refine (kS _ T4).mono ?_); rintro e w5 ⟨v5, rfl, hR5, hb5⟩; obtain ⟨a5, c5, rfl⟩ := hR5.slice)
    | (go_at_call 19; (with_reducible refine (kT _).mono ?_); rintro e w6 ⟨v6, rfl, hR6, hb6⟩; obtain ⟨a6, c6, rfl⟩ := hR6.slice; have S5 := hR5.ss.below hb6; have S6 := hR6.ss)
    | (go_at_call 20; (with_reducible refine (q1 _ _ _ S5 S6).mono ?_); rintro e w7 ⟨rfl, hb7⟩))
  go_ret
  exact ⟨rfl, bel_next (bel_next (bel_next (bel_next (bel_next hb1 hb3) hb4) hb5) hb6) hb7⟩
end Go.Proofs.YtanlnoephhjhhaaDoor.frameGets
