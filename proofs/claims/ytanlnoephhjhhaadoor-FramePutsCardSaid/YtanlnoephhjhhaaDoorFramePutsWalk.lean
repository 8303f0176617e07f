/- The walk of law FramePuts: it returns true and turns nothing that was there. -/
import Derived.Test.YtanlnoephhjhhaaDoorFrameAwake
import Derived.Test.YtanlnoephhjhhaaDoorFrameHelp
import Derived.Test.YtanlnoephhjhhaaDoorFrameRef
import Derived.Laws.MakeOwn
import Derived.Laws.OwnMore
namespace Go.Proofs.YtanlnoephhjhhaaDoor.framePuts
open Go.RowKit Go.Proofs.YtanlnoephhjhhaaDoor Go.Proofs.YtanlnoephhjhhaaDoor.Vi Go.Proofs.YtanlnoephhjhhaaDoor.Crc Go.Proofs.YtanlnoephhjhhaaDoor.Fr

/-- A text of M zeros, made out of a new slice. -/
theorem great (M : Nat) (hM : M ≤ 100000) : ∃ C : Array Value, (∀ w : World, (Instr.makeSlice 28 (.int .i64 (M : Int)) (.int .i64 (M : Int))).run Tryd.prog w = .ok (.slice (some ⟨w.heap.size, 0, none⟩) M M) (w.alloc (.cells C 5))) ∧
    ∀ w : World, (convert 28 9 (.slice (some ⟨w.heap.size, 0, none⟩) M M)).run Tryd.prog (w.alloc (.cells C 5)) = .ok (.string (tx (List.replicate M 0))) (w.alloc (.cells C 5)) := by
  obtain ⟨i0, hi, hz0, hz1, hz2⟩ := info_parts infoB
  refine ⟨madeCells #[.int .u8 0] M, fun w => ?_, fun w => ?_⟩
  · have := run_makeSlice (P := Tryd.prog) w 28 5 i0 (.int .u8 0) Tryd.underlying28 hi hz0 .i64 .i64 (M : Int) (M : Int) (by omega) (Int.le_refl _) (by rw [hz1]; simp; omega) (by rw [hz2]; omega) (by omega)
    rw [hz1, Int.toNat_natCast, Nat.mul_one] at this
    exact this
  · have := run_convert_bytes_back (P := Tryd.prog) (w.alloc (.cells (madeCells #[.int .u8 0] M) 5)) 28 9 5 ⟨w.heap.size, 0, none⟩ M (List.replicate M 0) Tryd.underlying28 Tryd.underlying5 Tryd.underlying9 fun j hj => by
      rw [List.length_replicate] at hj
      rw [add_off, Nat.zero_add, World.cell?_alloc_mark]
      have e : (madeCells #[Value.int .u8 0] M)[j]? = (madeCells #[Value.int .u8 0] M).toList[j]? := by simp
      rw [e, toList_madeCells_one]
      simp [hj]
    rw [List.length_replicate] at this
    exact this
theorem sgn (x : Int) : ∃ n : Nat, n ≤ 100 ∧ ((0 ≤ x ∧ x % 101 = (n : Int)) ∨ (x < 0 ∧ x.tmod 101 = -(n : Int))) := by
  by_cases h : 0 ≤ x
  · exact ⟨(x % 101).toNat, by omega, Or.inl ⟨h, by omega⟩⟩
  · have e := Int.tmod_eq_emod_of_nonneg (a := -x) (b := 101) (by omega)
    rw [Int.neg_tmod] at e
    exact ⟨((-x) % 101).toNat, by omega, Or.inr ⟨by omega, by omega⟩⟩

set_option maxHeartbeats 8000000 in
theorem walk (a1 : Option Addr) (n1 c1 : Nat) (long : Int) (w : World) (h1 : ArgStrs w a1 n1 c1) (hlong : -9223372036854775808 ≤ long ∧ long ≤ 9223372036854775807) (ht : Tab w) : Calls Tryd.prog 3 #[.slice a1 n1 c1, .int .i64 long] w fun e w' => e = .returned (.bool true) ∧ Below w.heap.size w w' := by
  obtain ⟨i0, hi, hz0, hz1, hz2⟩ := info_parts infoS
  obtain ⟨l, hl, hls, kf1⟩ := few_is a1 n1 c1 w h1
  have hA := awake_any w ht
  have HT := Lib.hid ht
  have HLS := Lib.hid hls
  have hput := fun (k : Nat) (hk : k < l.length) w ht => put_yes l[k] _ w (by have := hls _ (List.getElem_mem hk); omega) ht (Lib.hid (rfl : tx (fr l[k].data.toList) = _))
  have hrput := fun (k : Nat) (hk : k < l.length) w => rput_yes l[k] _ w (by have := hls _ (List.getElem_mem hk); omega) (Lib.hid (rfl : tx (fr l[k].data.toList) = _))
  have HPUT := Lib.hid hput
  have HRPUT := Lib.hid hrput
  clear hput hrput h1 hls ht
  go_enter Tryd.func3, Tryd.ntmps3
  go_wp2_with (first
    | (go_at_call 10; (with_reducible refine hA.mono ?_); rintro e w1 ⟨rfl, hb1⟩)
    | (go_at_call 11; (with_reducible refine (kf1 _ hb1).mono ?_); rintro e w2 ⟨v2, rfl, hR2, -, hb2⟩; obtain ⟨a8, c8, rfl⟩ := hR2.slice))
  have HB2 := Lib.hid (bel_next hb1 hb2)
  have HR2 := Lib.hid hR2
  have hb12 := hb1.size
  have HB12 := Lib.hid hb12
  have hw12 := hb2.size
  clear hb1 hb2 hR2 hb12 hA kf1
  go_loopw [7, 8] (fun x i wr => ∃ k : Nat, k ≤ l.length ∧ i = .int .i64 (k : Int) ∧ x = .string (tx (frs (byL (l.take k)))) ∧ Below w2.heap.size w2 wr) (fun _ i _ => l.length - (intOf i).toNat)
  case atStart => exact ⟨0, by omega, rfl, rfl, Below.refl _ _⟩
  case round =>
    obtain ⟨k, hk, rfl, rfl, hbel⟩ := hrel
    by_cases hlt : k < l.length
    · have hlt2 : (k : Int) < (l.length : Int) := by omega
      obtain ⟨b, off, rfl, -, hc⟩ := (HR2.out.ss.below hbel).cell (by omega)
      have hck := hc k hlt
      have kp := HPUT.out k hlt
      have kr := HRPUT.out k hlt
      have HF : Hid (tx (frs (byL (l.take (k + 1)))) = tx (frs (byL (l.take k))) ++ tx (fr l[k].data.toList)) := by
        show _ = _
        rw [byL_snoc l k hlt, frs_app, tx_app]
        simp [frs]
      have hsz : (tx (frs (byL (l.take k)))).size + (tx (fr l[k].data.toList)).size ≤ 9223372036854775807 := by
        have h1 := frs_take_len l k hk fun s hs => Nat.le_trans (HLS.out s hs) (by omega)
        have h2 := frs_one_len l[k] (Nat.le_trans (HLS.out _ (List.getElem_mem hlt)) (by omega))
        rw [tx_size, tx_size]; omega
      generalize tx (frs (byL (l.take k))) = X at *
      generalize tx (fr l[k].data.toList) = Z at *
      generalize l[k] = x at *
      have HB := Lib.hid hbel
      have hT := HT.out.below (HB2.out.trans (hbel.mono HB2.out.size)) HT.out.room
      have hbl := World.block_lt_of_cell? wr _ hck
      clear hc hbel
      go_wp2_with (first
        | (go_at_call 12; (with_reducible refine (kr _).mono ?_); rintro e w3 ⟨rfl, hb3⟩; have hT3 := hT.next hb3; have hck3 := (hb3.cell (p := ⟨b, off + k, none⟩) hbl).trans hck)
        | (go_at_call 13; (with_reducible refine (kp _ hT3).mono ?_); rintro e w4 ⟨rfl, hb4⟩))
      have hB4 := Lib.hid (bel_next (bel_next HB.out hb3) hb4)
      clear hb3 hb4 hT hT3
      go_roundw
      case rel => exact ⟨k + 1, by omega, by go_num, by rw [HF.out], hB4.out⟩
      case measure => simp [intOf]; omega
    · have hlt2 : ¬ (k : Int) < (l.length : Int) := by omega
      have hw2r := hbel.size
      have hkl : l.take k = l := List.take_of_length_le (by omega)
      have HWANT : Hid (tx (frs (byL (l.take k))) = tx (frs (byL l))) := by show _ = _; rw [hkl]
      obtain ⟨W, hW⟩ : ∃ W, tx (frs (byL (l.take k))) = W := ⟨_, rfl⟩
      rw [hW] at HWANT ⊢
      have kA := fun v w (hv : Ss w v l) ht => all_yes v l W w (by omega) (fun s hs => Nat.le_trans (HLS.out s hs) (by omega)) hv ht HWANT.symm
      obtain ⟨n, hn, hsg⟩ := sgn long
      obtain ⟨C, hC1, hC2⟩ := great (69950 + n) (by omega)
      obtain ⟨G, hG⟩ : ∃ G, tx (List.replicate (69950 + n) 0) = G := ⟨_, rfl⟩
      have hGs : G.size = 69950 + n := by rw [← hG, tx_size, List.length_replicate]
      rw [hG] at hC2
      have hcast : ((69950 + n : Nat) : Int) = 69950 + (n : Int) := by omega
      rw [hcast] at hC1
      have hS := HR2.out.later hbel
      have hT := HT.out.below (HB2.out.trans (hbel.mono HB2.out.size)) HT.out.room
      have HB := Lib.hid (HB2.out.trans (hbel.mono HB2.out.size))
      clear hW HPUT HRPUT hbel hkl hG
      have hneg : (0 ≤ long ∧ long % 101 = (n : Int)) ∨ (long < 0 ∧ n = 0 ∧ long.tmod 101 = 0) ∨ (long < 0 ∧ 0 < n ∧ long.tmod 101 = -(n : Int)) := by omega
      clear hsg
      have hT0 : Tab (wr.alloc (.cells C 5)) := hT.alloc _
      have hS0 : SRow (wr.alloc (.cells C 5)) w1.heap.size (.slice a8 l.length c8) l := hS.later ((Below.refl _ _).alloc (Nat.le_refl _) _)
      have hB0 : Below w.heap.size w (wr.alloc (.cells C 5)) := bel_new HB.out _
      have hw0 : w1.heap.size ≤ (wr.alloc (.cells C 5)).heap.size := by simp; omega
      have hw01 := HB12.out
      clear hT hS
      by_cases h50 : n ≤ 50
      · have h50i : (n : Int) ≤ 50 := by omega
        obtain ⟨Z, hZ⟩ : ∃ Z, tx (fr G.data.toList) = Z := ⟨_, rfl⟩
        have kP := fun w ht => put_yes G Z w (by omega) ht hZ
        obtain ⟨Z2, hZ2⟩ : ∃ Z, tx (frs (byL (l ++ [G]))) = Z := ⟨_, rfl⟩
        have kB := fun v w (hv : Ss w v (l ++ [G])) ht => all_yes v (l ++ [G]) Z2 w (by rw [List.length_append]; simp; omega) (fun s hs => by
          rcases List.mem_append.1 hs with h | h
          · exact Nat.le_trans (HLS.out s h) (by omega)
          · obtain rfl := List.mem_singleton.1 h; omega) hv ht hZ2
        clear hZ hZ2
        clear hGs h50
        rcases hneg with ⟨s1, s2⟩ | ⟨s1, rfl, s2⟩ | ⟨s1, s3, s2⟩
        · skip
          go_wp2_with (first
              | (go_at_call 13; (with_reducible refine (kP _ hT0).mono ?_); rintro e w3 ⟨rfl, hb3⟩; have T3 := hT0.next hb3; have S3 := hS0.later hb3; have hB3 := bel_next hB0 hb3; have hw3 := Nat.le_trans hw0 hb3.size)
              | (go_at_call 14; (with_reducible refine (kA _ _ S3.ss T3).mono ?_); rintro e w4 ⟨rfl, hb4⟩; have T4 := T3.next hb4; have S4 := S3.later hb4; have hB4 := bel_next hB3 hb4; have hw4 := Nat.le_trans hw3 hb4.size)
              | (at_builtin; refine wpList_srow rfl _ _ rfl w1.heap.size (.slice a8 l.length c8) l rfl G rfl S4 hw4 (by omega) ?_))
          intro v5 w5 hR5 hb5 hG5
          have T5 := T4.below (hb5.mono hw01) HT.out.room
          have hB5 := hB4.trans (hb5.mono hw01)
          clear hG5 hb5
          go_wp2_with (first
              | (go_at_call 14; (with_reducible refine (kB _ _ hR5.ss T5).mono ?_); rintro e w6 ⟨rfl, hb6⟩))
          go_ret
          exact ⟨rfl, bel_next hB5 hb6⟩
        · simp only [Nat.add_zero, Int.natCast_zero, Int.add_zero] at hC1 hC2
          clear h50i
          go_wp2_with (first
              | (go_at_call 13; (with_reducible refine (kP _ hT0).mono ?_); rintro e w3 ⟨rfl, hb3⟩; have T3 := hT0.next hb3; have S3 := hS0.later hb3; have hB3 := bel_next hB0 hb3; have hw3 := Nat.le_trans hw0 hb3.size)
              | (go_at_call 14; (with_reducible refine (kA _ _ S3.ss T3).mono ?_); rintro e w4 ⟨rfl, hb4⟩; have T4 := T3.next hb4; have S4 := S3.later hb4; have hB4 := bel_next hB3 hb4; have hw4 := Nat.le_trans hw3 hb4.size)
              | (at_builtin; refine wpList_srow rfl _ _ rfl w1.heap.size (.slice a8 l.length c8) l rfl G rfl S4 hw4 (by omega) ?_))
          intro v5 w5 hR5 hb5 hG5
          have T5 := T4.below (hb5.mono hw01) HT.out.room
          have hB5 := hB4.trans (hb5.mono hw01)
          clear hG5 hb5
          go_wp2_with (first
              | (go_at_call 14; (with_reducible refine (kB _ _ hR5.ss T5).mono ?_); rintro e w6 ⟨rfl, hb6⟩))
          go_ret
          exact ⟨rfl, bel_next hB5 hb6⟩
        · skip
          go_wp2_with (first
              | (go_at_call 13; (with_reducible refine (kP _ hT0).mono ?_); rintro e w3 ⟨rfl, hb3⟩; have T3 := hT0.next hb3; have S3 := hS0.later hb3; have hB3 := bel_next hB0 hb3; have hw3 := Nat.le_trans hw0 hb3.size)
              | (go_at_call 14; (with_reducible refine (kA _ _ S3.ss T3).mono ?_); rintro e w4 ⟨rfl, hb4⟩; have T4 := T3.next hb4; have S4 := S3.later hb4; have hB4 := bel_next hB3 hb4; have hw4 := Nat.le_trans hw3 hb4.size)
              | (at_builtin; refine wpList_srow rfl _ _ rfl w1.heap.size (.slice a8 l.length c8) l rfl G rfl S4 hw4 (by omega) ?_))
          intro v5 w5 hR5 hb5 hG5
          have T5 := T4.below (hb5.mono hw01) HT.out.room
          have hB5 := hB4.trans (hb5.mono hw01)
          clear hG5 hb5
          go_wp2_with (first
              | (go_at_call 14; (with_reducible refine (kB _ _ hR5.ss T5).mono ?_); rintro e w6 ⟨rfl, hb6⟩))
          go_ret
          exact ⟨rfl, bel_next hB5 hb6⟩
      · have h50i : ¬ (n : Int) ≤ 50 := by omega
        have kP := fun w ht => put_no G w (by omega) (by omega) ht
        have kB := fun v w (hv : Ss w v (l ++ [G])) ht => all_no v (l ++ [G]) w (by rw [List.length_append]; simp; omega) l.length (by simp) (fun i h hi => by
          rw [List.getElem_append_left hi]; exact Nat.le_trans (HLS.out _ (List.getElem_mem hi)) (by omega)) (by simp; omega) (by simp; omega) hv ht
        clear hGs h50
        rcases hneg with ⟨s1, s2⟩ | ⟨s1, rfl, s2⟩ | ⟨s1, s3, s2⟩
        · skip
          go_wp2_with (first
              | (go_at_call 13; (with_reducible refine (kP _ hT0).mono ?_); rintro e w3 ⟨rfl, hb3⟩; have T3 := hT0.next hb3; have S3 := hS0.later hb3; have hB3 := bel_next hB0 hb3; have hw3 := Nat.le_trans hw0 hb3.size)
              | (go_at_call 14; (with_reducible refine (kA _ _ S3.ss T3).mono ?_); rintro e w4 ⟨rfl, hb4⟩; have T4 := T3.next hb4; have S4 := S3.later hb4; have hB4 := bel_next hB3 hb4; have hw4 := Nat.le_trans hw3 hb4.size)
              | (at_builtin; refine wpList_srow rfl _ _ rfl w1.heap.size (.slice a8 l.length c8) l rfl G rfl S4 hw4 (by omega) ?_))
          intro v5 w5 hR5 hb5 hG5
          have T5 := T4.below (hb5.mono hw01) HT.out.room
          have hB5 := hB4.trans (hb5.mono hw01)
          clear hG5 hb5
          go_wp2_with (first
              | (go_at_call 14; (with_reducible refine (kB _ _ hR5.ss T5).mono ?_); rintro e w6 ⟨rfl, hb6⟩))
          go_ret
          refine ⟨?_, bel_next hB5 hb6⟩
          show Ending.returned (.bool (!decide ((n : Int) ≤ 50))) = _
          rw [decide_eq_false (by omega)]; rfl
        · exact absurd (by omega) h50i
        · skip
          go_wp2_with (first
              | (go_at_call 13; (with_reducible refine (kP _ hT0).mono ?_); rintro e w3 ⟨rfl, hb3⟩; have T3 := hT0.next hb3; have S3 := hS0.later hb3; have hB3 := bel_next hB0 hb3; have hw3 := Nat.le_trans hw0 hb3.size)
              | (go_at_call 14; (with_reducible refine (kA _ _ S3.ss T3).mono ?_); rintro e w4 ⟨rfl, hb4⟩; have T4 := T3.next hb4; have S4 := S3.later hb4; have hB4 := bel_next hB3 hb4; have hw4 := Nat.le_trans hw3 hb4.size)
              | (at_builtin; refine wpList_srow rfl _ _ rfl w1.heap.size (.slice a8 l.length c8) l rfl G rfl S4 hw4 (by omega) ?_))
          intro v5 w5 hR5 hb5 hG5
          have T5 := T4.below (hb5.mono hw01) HT.out.room
          have hB5 := hB4.trans (hb5.mono hw01)
          clear hG5 hb5
          go_wp2_with (first
              | (go_at_call 14; (with_reducible refine (kB _ _ hR5.ss T5).mono ?_); rintro e w6 ⟨rfl, hb6⟩))
          go_ret
          refine ⟨?_, bel_next hB5 hb6⟩
          show Ending.returned (.bool (!decide ((n : Int) ≤ 50))) = _
          rw [decide_eq_false (by omega)]; rfl
end Go.Proofs.YtanlnoephhjhhaaDoor.framePuts
