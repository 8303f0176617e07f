/- The walk of law FrameJoins: it returns true and turns nothing that was there. -/
import Derived.Test.YtanlnoephhjhhaaDoorFrameAwake
import Derived.Test.YtanlnoephhjhhaaDoorFrameHelp
namespace Go.Proofs.YtanlnoephhjhhaaDoor.frameJoins
open Go.RowKit Go.Proofs.YtanlnoephhjhhaaDoor Go.Proofs.YtanlnoephhjhhaaDoor.Vi Go.Proofs.YtanlnoephhjhhaaDoor.Crc Go.Proofs.YtanlnoephhjhhaaDoor.Fr

theorem byL_app (a b : List ByteArray) : byL (a ++ b) = byL a ++ byL b := by unfold byL; rw [List.map_append]
theorem txL_byL (l : List ByteArray) : txL (byL l) = l := by
  unfold txL byL
  rw [List.map_map]
  conv => rhs; rw [← List.map_id l]
  exact List.map_congr_left fun s _ => tx_list s
theorem byL_size {l : List ByteArray} {n : Nat} (h : ∀ s ∈ l, s.size ≤ n) : ∀ b ∈ byL l, b.length ≤ n := fun b hb => by
  obtain ⟨s, hs, rfl⟩ := List.mem_map.1 hb
  rw [size_list]; exact h s hs
theorem frs_len {l : List ByteArray} (hl : l.length ≤ 20) (h : ∀ s ∈ l, s.size ≤ 300) : (frs (byL l)).length ≤ 6200 := by
  have : ∀ k, k ≤ l.length → (frs (byL (l.take k))).length ≤ 310 * k := by
    intro k
    induction k with
    | zero => intro _; simp [byL, frs]
    | succ k ih =>
      intro hk
      rw [byL_snoc l k (by omega), frs_app, List.length_append]
      have h1 := ih (by omega)
      have h2 := h _ (List.getElem_mem (show k < l.length by omega))
      have e : frs [l[k].data.toList] = fr l[k].data.toList := by simp [frs]
      rw [e, fr_len, size_list]
      have := enc_len 2 l[k].size (by have : (128 : Nat) ^ (2 + 1) = 2097152 := by decide
                                      omega)
      omega
  have := this l.length (Nat.le_refl _)
  rw [List.take_length] at this
  omega

theorem scan_len (s : List UInt8) : (scan s).2.1 ≤ s.length ∧ (scan s).1.length ≤ s.length ∧ (scan s).2.2 ≤ 3 := by
  suffices H : ∀ n, ∀ s : List UInt8, s.length ≤ n → (scan s).2.1 ≤ s.length ∧ (scan s).1.length ≤ s.length ∧ (scan s).2.2 ≤ 3 from H s.length s (Nat.le_refl _)
  intro n
  induction n with
  | zero =>
    intro s hs
    obtain rfl := List.eq_nil_of_length_eq_zero (Nat.le_zero.1 hs)
    rw [scan_nil]; simp
  | succ n ih =>
    intro s hs
    by_cases h : (getF s).w = 0
    · obtain ⟨h1, h2⟩ := getF_len h
      have := ih (s.drop (getF s).len) (by rw [List.length_drop]; omega)
      rw [List.length_drop] at this
      rw [scan_step h]
      simp only [List.length_cons]
      omega
    · rw [scan_stop h]
      have := getF_w s
      simp; omega

set_option maxHeartbeats 8000000 in
theorem walk (a1 : Option Addr) (n1 c1 : Nat) (a2 : Option Addr) (n2 c2 : Nat) (tail : ByteArray) (w : World) (h1 : ArgStrs w a1 n1 c1) (h2 : ArgStrs w a2 n2 c2) (_ : tail.size ≤ maxLen) (ht : Tab w) : Calls Tryd.prog 9 #[.slice a1 n1 c1, .slice a2 n2 c2, .string tail] w fun e w' => e = .returned (.bool true) ∧ Below w.heap.size w w' := by
  obtain ⟨l, hl, hls, kf1⟩ := few_is a1 n1 c1 w h1
  obtain ⟨m, hm, hms, kf2⟩ := few_is a2 n2 c2 w h2
  have hA := awake_any w ht
  obtain ⟨SA, hSA⟩ : ∃ S, tx (frs (byL l)) = S := ⟨_, rfl⟩
  obtain ⟨SB, hSB⟩ : ∃ S, tx (frs (byL m)) = S := ⟨_, rfl⟩
  obtain ⟨T0, hT0⟩ : ∃ S, cutB tail 100 = S := ⟨_, rfl⟩
  have hT0s : T0.size ≤ 100 := by rw [← hT0]; exact (cutB_size tail 100).1
  obtain ⟨T, hT⟩ : ∃ T, T0.data.toList = T := ⟨_, rfl⟩
  have hTT : tx T = T0 := by rw [← hT]; exact tx_list T0
  have hTl : T.length ≤ 100 := by rw [← hT, size_list]; exact hT0s
  have kA1 := fun v w (hv : Ss w v l) (ht : Tab w) => all_yes v l SA w (by omega) (fun s hs => by have := hls s hs; omega) hv ht hSA
  have kA2 := fun v w (hv : Ss w v m) (ht : Tab w) => all_yes v m SB w (by omega) (fun s hs => by have := hms s hs; omega) hv ht hSB
  obtain ⟨NA, hNA⟩ : ∃ n, (frs (byL l)).length = n := ⟨_, rfl⟩
  obtain ⟨NB, hNB⟩ : ∃ n, (frs (byL m)).length = n := ⟨_, rfl⟩
  have hNA2 : NA ≤ 6200 := by rw [← hNA]; exact frs_len hl hls
  have hNB2 : NB ≤ 6200 := by rw [← hNB]; exact frs_len hm hms
  have hzA : SA.size = NA := by rw [← hSA, tx_size]; exact hNA
  have hzB : SB.size = NB := by rw [← hSB, tx_size]; exact hNB
  have hl7 := byL_size fun s hs => Nat.le_trans (hls s hs) (show 300 ≤ 70000 by omega)
  have hm7 := byL_size fun s hs => Nat.le_trans (hms s hs) (show 300 ≤ 70000 by omega)
  have e1 := scan_whole (byL l ++ byL m) fun b hb => (List.mem_append.1 hb).elim (hl7 b) (hm7 b)
  rw [frs_app, List.length_append, hNA, hNB, ← byL_app] at e1
  have kS1 := fun w ht => scan_is (frs (byL l) ++ frs (byL m)) (l ++ m) ((NA : Int) + (NB : Int)) 1 w (by rw [List.length_append]; omega) ht (by show txL _ = _; rw [e1]; exact txL_byL _) (by show _ = _; rw [e1]; simp) (by show _ = _; rw [e1]; rfl)
  rw [← tx_app, hSA, hSB] at kS1
  obtain ⟨Y, hY⟩ : ∃ Y, txL (scan T).1 = Y := ⟨_, rfl⟩
  obtain ⟨K, hK⟩ : ∃ K, (scan T).2.1 = K := ⟨_, rfl⟩
  obtain ⟨U, hU⟩ : ∃ U, (scan T).2.2 = U := ⟨_, rfl⟩
  obtain ⟨b1, b2, b3⟩ := scan_len T
  have hYl : Y.length ≤ 100 := by rw [← hY, txL_length]; omega
  rw [hK] at b1
  have kS2 := fun w ht => scan_is T Y (K : Int) (U : Int) w (by omega) ht hY (by show _ = _; rw [hK]) (by show _ = _; rw [hU])
  rw [hTT] at kS2
  have e2 := scan_frs (byL l) T hl7
  rw [hNA, hK, hU] at e2
  have kS3 := fun w ht => scan_is (frs (byL l) ++ T) (l ++ Y) ((NA : Int) + (K : Int)) (U : Int) w (by rw [List.length_append]; omega) ht (by show txL _ = _; rw [e2]; show txL (byL l ++ _) = _; rw [← hY]; unfold txL; rw [List.map_append]; congr 1; exact txL_byL l) (by show _ = _; rw [e2]; simp) (by show _ = _; rw [e2])
  rw [← tx_app, hSA, hTT] at kS3
  have ksh := fun w => short_is tail T0 100 100 w rfl (by omega) hT0
  have hz1 : SA.size + SB.size ≤ 9223372036854775807 := by omega
  have hz2 : SA.size + T0.size ≤ 9223372036854775807 := by omega
  obtain ⟨SAB, hSAB⟩ : ∃ S, SA ++ SB = S := ⟨_, rfl⟩
  obtain ⟨SAT, hSAT⟩ : ∃ S, SA ++ T0 = S := ⟨_, rfl⟩
  rw [hSAB] at kS1
  rw [hSAT] at kS3
  have q1 := fun v1 v2 w (h1 : Ss w v1 l) (h2 : Ss w v2 l) => same_is v1 v2 l l w h1 h2
  have q2 := fun v1 v2 w (h1 : Ss w v1 m) (h2 : Ss w v2 m) => same_is v1 v2 m m w h1 h2
  have q3 := fun v1 v2 w (h1 : Ss w v1 Y) (h2 : Ss w v2 Y) => same_is v1 v2 Y Y w h1 h2
  rw [sameS_self] at q1 q2 q3
  have ht1 : Lib.hid ht = Lib.hid ht := rfl
  clear h1 h2 hls hms hSA hSB hT0 hT hTT hNA hNB e1 e2 hY hK hU hl7 hm7 ht1 b2 b3
  go_enter Tryd.func9, Tryd.ntmps9
  go_wp2_with (first
    | (go_at_call 10; (with_reducible refine hA.mono ?_); rintro e w1 ⟨rfl, hb1⟩; have T1 := ht.next hb1; have kf2b := fun u (h : Below w1.heap.size w1 u) => kf2 u (bel_next hb1 h))
    | (go_at_call 11; (with_reducible refine (kf1 _ hb1).mono ?_); rintro e w2 ⟨v2, rfl, hR2, -, hb2⟩; obtain ⟨a8, c8, rfl⟩ := hR2.slice; have T2 := T1.next hb2)
    | (go_at_call 11; (with_reducible refine (kf2b _ hb2).mono ?_); rintro e w3 ⟨v3, rfl, hR3, -, hb3⟩; obtain ⟨a9, c9, rfl⟩ := hR3.slice; have T3 := T2.next hb3; have S8 := hR2.ss.below hb3; have S9 := hR3.ss)
    | (go_at_call 14; (with_reducible refine (kA1 _ _ S8 T3).mono ?_); rintro e w4 ⟨rfl, hb4⟩; have T4 := T3.next hb4; have S8b := S8.below hb4; have S9b := S9.below hb4)
    | (go_at_call 14; (with_reducible refine (kA2 _ _ S9b T4).mono ?_); rintro e w5 ⟨rfl, hb5⟩; have T5 := T4.next hb5; have S8c := S8b.below hb5; have S9c := S9b.below hb5)
    | (go_at_call 18; (with_reducible refine (kS1 _ T5).mono ?_); rintro e w6 ⟨v6, rfl, hR6, hb6⟩; obtain ⟨a6, c6, rfl⟩ := hR6.slice; obtain ⟨vh, ⟨hh1, hh2⟩, Sh⟩ := hR6.cutHead l.length (by simp); obtain ⟨vt, ⟨hh3, hh4⟩, St⟩ := hR6.cutTail l.length (by simp); rw [List.take_left] at Sh; rw [List.drop_left] at St; rw [List.length_append] at hh1 hh2 hh3 hh4 ⊢; have T6 := T5.next hb6; have S8d := S8c.below hb6; have S9d := S9c.below hb6)
    | (go_at_call 20; (with_reducible refine (q1 _ _ _ Sh S8d).mono ?_); rintro e w7 ⟨rfl, hb7⟩; have T7 := T6.next hb7; have St7 := St.below hb7; have S9e := S9d.below hb7)
    | (go_at_call 20; (with_reducible refine (q2 _ _ _ St7 S9e).mono ?_); rintro e w8 ⟨rfl, hb8⟩; have T8 := T7.next hb8)
    | (go_at_call 15; (with_reducible refine (ksh _).mono ?_); rintro e w9 ⟨rfl, rfl⟩)
    | (go_at_call 18; (with_reducible refine (kS2 _ T8).mono ?_); rintro e w10 ⟨v10, rfl, hR10, hb10⟩; obtain ⟨a10, c10, rfl⟩ := hR10.slice; have T10 := T8.next hb10)
    | (go_at_call 18; (with_reducible refine (kS3 _ T10).mono ?_); rintro e w11 ⟨v11, rfl, hR11, hb11⟩; obtain ⟨a11, c11, rfl⟩ := hR11.slice; obtain ⟨vu, ⟨hh5, hh6⟩, Su⟩ := hR11.cutTail l.length (by simp); rw [List.drop_left] at Su; rw [List.length_append] at hh5 hh6 ⊢; have S10 := hR10.ss.below hb11)
    | (go_at_call 20; (with_reducible refine (q3 _ _ _ Su S10).mono ?_); rintro e w12 ⟨rfl, hb12⟩))
  go_ret
  exact ⟨rfl, bel_next (bel_next (bel_next (bel_next (bel_next (bel_next (bel_next (bel_next (bel_next (bel_next hb1 hb2) hb3) hb4) hb5) hb6) hb7) hb8) hb10) hb11) hb12⟩
end Go.Proofs.YtanlnoephhjhhaaDoor.frameJoins
