/- The law's points. -/
import Derived.Test.YtcjcbbpolhpphaaQuAwake
import Derived.Test.YtcjcbbpolhpphaaQuReps
import Derived.Test.YtcjcbbpolhpphaaSampleG
import Derived.Test.YtcjcbbpolhpphaaBlockCut
set_option maxRecDepth 20000
set_option linter.unusedSimpArgs false
set_option linter.unusedVariables false
namespace Go.Proofs.Ytcjcbbpolhpphaa.Qu
open Go.RowKit Go.Proofs.Ytcjcbbpolhpphaa.Vi

def ptsB (l : List Pt) : List Pt := (l.take 10).map Pt.short
theorem ptsB_len (l : List Pt) : (ptsB l).length ≤ 10 := by unfold ptsB; rw [List.length_map, List.length_take]; omega
theorem ptsB_short {l : List Pt} {p : Pt} (h : p ∈ ptsB l) : p.s.size ≤ 60 := by
  obtain ⟨q, -, rfl⟩ := List.mem_map.1 (show p ∈ (l.take 10).map Pt.short from h)
  exact cutB_len _ _
theorem ptsB_fits {l : List Pt} (hf : ∀ p ∈ l, p.fits) {p : Pt} (h : p ∈ ptsB l) : p.fits := by
  obtain ⟨q, hq, rfl⟩ := List.mem_map.1 (show p ∈ (l.take 10).map Pt.short from h)
  have hq := hf q (List.mem_of_mem_take hq)
  exact ⟨by have := cutB_len q.s 60; show (cutB q.s 60).size ≤ _; omega, hq.t, hq.v⟩
structure PtsJ (w wr : World) (l : List Pt) (k r : Nat) (v : Value) : Prop where
  row : PRow wr w.heap.size v ((l.take k).map Pt.short)
  len : ((l.take k).map Pt.short).length = r
  bel : Below w.heap.size w wr
set_option maxHeartbeats 8000000 in
theorem points_is (a0 : Option Addr) (c0 : Nat) (l : List Pt) (w : World) (hS : Pts w w.heap.size a0 l) (hl : l.length ≤ 9223372036854775807) : Calls Try.prog 20 #[.slice a0 l.length c0] w fun e w' => ∃ v, e = .returned v ∧ PRow w' w.heap.size v (ptsB l) ∧ Below w.heap.size w w' := by
  have HS := Lib.hid hS
  clear hS
  go_enter Try.func20, Try.ntmps20
  go_wp2
  go_loopw [3, 4] (fun o i wr => ∃ (k r : Nat) (a5 : Option Addr) (c5 : Nat), k ≤ 10 ∧ k ≤ l.length ∧ i = .int .i64 (k : Int) ∧ o = .slice a5 r c5 ∧ Hid (PtsJ w wr l k r (.slice a5 r c5))) (fun _ i _ => 10 - (intOf i).toNat)
  case atStart => exact ⟨0, 0, none, 0, by omega, by omega, rfl, rfl, Lib.hid ⟨PRow.nil _ _, rfl, Below.refl _ _⟩⟩
  case round =>
    obtain ⟨k, r, a5, c5, hk1, hk2, rfl, rfl, HJ⟩ := hrel
    obtain ⟨w3, hw3⟩ : ∃ x, x = wr := ⟨_, rfl⟩
    subst hw3
    have hrk : r ≤ k := by rw [← HJ.out.len, List.length_map, List.length_take]; omega
    by_cases hgo : k < l.length ∧ k < 10
    · obtain ⟨g1, g2⟩ := hgo
      have hi1 : (k : Int) < (l.length : Int) := by omega
      have hi2 : (k : Int) < 10 := by omega
      rcases HS.out.at_ with rfl | ⟨b, off, rfl, hbw, hc⟩
      · simp at g1
      · have hA := (hc k g1).below HJ.out.bel hbw
        have hst := few_step g1
        obtain ⟨p, hp⟩ : ∃ p, l[k] = p := ⟨_, rfl⟩
        rw [hp] at hA hst
        obtain ⟨c0', c1, c2, c3, c4, c5'⟩ := hA
        have hal := (Below.refl w3.heap.size w3).alloc (Nat.le_refl _) (.cells #[.string p.s, .int .i64 p.t, .int .i64 p.v, .int .i64 p.st.c, .int .i64 p.st.s, .int .i64 p.st.q] 55)
        have HB1 := Lib.hid (bel_next HJ.out.bel hal)
        have HAL := Lib.hid hal
        have hb3 := HJ.out.bel.size
        have HBS := Lib.hid hb3
        by_cases hs : 60 < p.s.size
        · obtain ⟨y, hy⟩ : ∃ y, p.s.extract 0 60 = y := ⟨_, rfl⟩
          have hsh : Pt.short p = ⟨y, p.t, p.v, p.st⟩ := by
            unfold Pt.short; congr 1; unfold cutB; rw [if_pos hs]; exact hy
          rw [hsh] at hst
          have HST := Lib.hid hst
          have hal2 := (Below.refl w3.heap.size w3).alloc (Nat.le_refl _) (.cells #[.string y, .int .i64 p.t, .int .i64 p.v, .int .i64 p.st.c, .int .i64 p.st.s, .int .i64 p.st.q] 55)
          have HR4 := Lib.hid (HJ.out.row.later hal2)
          have HB4 := Lib.hid (bel_next HJ.out.bel hal2)
          clear hc hp hst hsh hal hal2
          go_wp2_with (at_builtin; refine wpList_appP (w := w3.alloc (.cells #[.string y, .int .i64 p.t, .int .i64 p.v, .int .i64 p.st.c, .int .i64 p.st.s, .int .i64 p.st.q] 55)) rfl _ _ rfl w.heap.size r (.slice a5 r c5) ((l.take k).map Pt.short) ⟨y, p.t, p.v, p.st⟩ (w3.heap.size + 1) rfl rfl (by simp) (Lib.hid HJ.out.len) HR4.out (by omega) HB4.out.size ?_; intro a6 c6 w6 hrow6 _ hb6 _; have HR6 := Lib.hid hrow6.out; have HB6 := Lib.hid (HB4.out.trans hb6); clear hrow6 hb6)
          clear c0' c1 c2 c3 c4 c5'
          go_roundw
          case rel => exact ⟨k + 1, r + 1, a6, c6, by omega, by omega, by go_num, rfl, Lib.hid ⟨by rw [HST.out]; exact HR6.out, by rw [HST.out, List.length_append, HJ.out.len]; rfl, HB6.out⟩⟩
          case measure => simp [intOf]; omega
        · have hsi : ¬ (60 : Int) < (p.s.size : Int) := by omega
          have hsh : Pt.short p = p := by
            unfold Pt.short cutB; rw [if_neg hs]
          rw [hsh] at hst
          have HST := Lib.hid hst
          have HR4 := Lib.hid (HJ.out.row.later hal)
          clear hc hp hst hsh hal
          go_wp2_with (at_builtin; refine wpList_appP (w := w3.alloc (.cells #[.string p.s, .int .i64 p.t, .int .i64 p.v, .int .i64 p.st.c, .int .i64 p.st.s, .int .i64 p.st.q] 55)) rfl _ _ rfl w.heap.size r (.slice a5 r c5) ((l.take k).map Pt.short) p (w3.heap.size + 1) rfl rfl (by simp) (Lib.hid HJ.out.len) HR4.out (by omega) HB1.out.size ?_; intro a6 c6 w6 hrow6 _ hb6 _; have HR6 := Lib.hid hrow6.out; have HB6 := Lib.hid (HB1.out.trans hb6); clear hrow6 hb6)
          clear c0' c1 c2 c3 c4 c5'
          go_roundw
          case rel => exact ⟨k + 1, r + 1, a6, c6, by omega, by omega, by go_num, rfl, Lib.hid ⟨by rw [HST.out]; exact HR6.out, by rw [HST.out, List.length_append, HJ.out.len]; rfl, HB6.out⟩⟩
          case measure => simp [intOf]; omega
    · have hend : (l.take k).map Pt.short = ptsB l := by
        unfold ptsB
        by_cases e : k = 10
        · rw [e]
        · rw [List.take_of_length_le (show l.length ≤ k by omega), List.take_of_length_le (show l.length ≤ 10 by omega)]
      have HE := Lib.hid hend
      have hg2 : ((k : Int) < (l.length : Int) ∧ ¬ (k : Int) < 10) ∨ ¬ (k : Int) < (l.length : Int) := by omega
      clear hgo hend
      rcases hg2 with ⟨hg2, hg3⟩ | hg2
      · go_wp2
        go_ret
        exact ⟨_, rfl, by rw [← HE.out]; exact HJ.out.row, HJ.out.bel⟩
      · go_wp2
        go_ret
        exact ⟨_, rfl, by rw [← HE.out]; exact HJ.out.row, HJ.out.bel⟩
end Go.Proofs.Ytcjcbbpolhpphaa.Qu
