/- The contracts of the laws' few, point and sameTexts. -/
import Derived.Test.YtkomfenjeoaelaaDoorBlockRow
import Derived.Test.YtkomfenjeoaelaaDoorBlockCut
import Derived.Test.YtkomfenjeoaelaaDoorSampleG
set_option maxRecDepth 20000
set_option linter.unusedSimpArgs false
namespace Go.Proofs.YtkomfenjeoaelaaDoor
open Go.RowKit Go.Proofs.YtkomfenjeoaelaaDoor.Vi Go.Proofs.YtkomfenjeoaelaaDoor.Mk

def fewB (l : List Pt) : List Pt := (l.take 40).map Pt.short
theorem fewB_len (l : List Pt) : (fewB l).length ≤ 40 := by unfold fewB; rw [List.length_map, List.length_take]; omega
theorem fewB_short {l : List Pt} {p : Pt} (h : p ∈ fewB l) : p.s.size ≤ 60 := by
  obtain ⟨q, -, rfl⟩ := List.mem_map.1 (show p ∈ (l.take 40).map Pt.short from h)
  exact cutB_len _ _
theorem fewB_fits {l : List Pt} (hf : ∀ p ∈ l, p.fits) {p : Pt} (h : p ∈ fewB l) : p.fits := by
  obtain ⟨q, hq, rfl⟩ := List.mem_map.1 (show p ∈ (l.take 40).map Pt.short from h)
  have hq := hf q (List.mem_of_mem_take hq)
  exact ⟨by have := cutB_len q.s 60; show (cutB q.s 60).size ≤ _; omega, hq.t, hq.v⟩
structure FewJ (w wr : World) (l : List Pt) (k r : Nat) (v : Value) : Prop where
  row : PRow wr w.heap.size v ((l.take k).map Pt.short)
  len : ((l.take k).map Pt.short).length = r
  bel : Below w.heap.size w wr
set_option maxHeartbeats 8000000 in
theorem few12_is (a0 : Option Addr) (c0 : Nat) (l : List Pt) (w : World) (hS : Pts w w.heap.size a0 l) (hl : l.length ≤ 9223372036854775807) : Calls Tryd.prog 11 #[.slice a0 l.length c0] w fun e w' => ∃ v, e = .returned v ∧ PRow w' w.heap.size v (fewB l) ∧ Below w.heap.size w w' := by
  have HS := Lib.hid hS
  clear hS
  go_enter Tryd.func11, Tryd.ntmps11
  go_wp2
  go_loopw [3, 4] (fun o i wr => ∃ (k r : Nat) (a5 : Option Addr) (c5 : Nat), k ≤ 40 ∧ k ≤ l.length ∧ i = .int .i64 (k : Int) ∧ o = .slice a5 r c5 ∧ Hid (FewJ w wr l k r (.slice a5 r c5))) (fun _ i _ => 40 - (intOf i).toNat)
  case atStart => exact ⟨0, 0, none, 0, by omega, by omega, rfl, rfl, Lib.hid ⟨PRow.nil _ _, rfl, Below.refl _ _⟩⟩
  case round =>
    obtain ⟨k, r, a5, c5, hk1, hk2, rfl, rfl, HJ⟩ := hrel
    obtain ⟨w3, hw3⟩ : ∃ x, x = wr := ⟨_, rfl⟩
    subst hw3
    have hrk : r ≤ k := by rw [← HJ.out.len, List.length_map, List.length_take]; omega
    by_cases hgo : k < l.length ∧ k < 40
    · obtain ⟨g1, g2⟩ := hgo
      have hi1 : (k : Int) < (l.length : Int) := by omega
      have hi2 : (k : Int) < 40 := by omega
      rcases HS.out.at_ with rfl | ⟨b, off, rfl, hbw, hc⟩
      · simp at g1
      · have hA := (hc k g1).below HJ.out.bel hbw
        have hst := few_step g1
        obtain ⟨p, hp⟩ : ∃ p, l[k] = p := ⟨_, rfl⟩
        rw [hp] at hA hst
        obtain ⟨c0', c1, c2, c3, c4, c5'⟩ := hA
        have hal := (Below.refl w3.heap.size w3).alloc (Nat.le_refl _) (.cells #[.string p.s, .int .i64 p.t, .int .i64 p.v, .int .i64 p.st.c, .int .i64 p.st.s, .int .i64 p.st.q] 32)
        have HB1 := Lib.hid (bel_next HJ.out.bel hal)
        have HAL := Lib.hid hal
        have hb3 := HJ.out.bel.size
        have HBS := Lib.hid hb3
        by_cases hs : 60 < p.s.size
        · obtain ⟨y, hy⟩ : ∃ y, p.s.extract 0 60 = y := ⟨_, rfl⟩
          have hsh : Pt.short p = ⟨y, p.t, p.v, p.st⟩ := by
            unfold Pt.short; congr 1; unfold cutB; rw [if_pos hs]; exact hy
          rw [hsh] at hst
          have HST := Lib.hid hst
          have hal2 := (Below.refl w3.heap.size w3).alloc (Nat.le_refl _) (.cells #[.string y, .int .i64 p.t, .int .i64 p.v, .int .i64 p.st.c, .int .i64 p.st.s, .int .i64 p.st.q] 32)
          have HR4 := Lib.hid (HJ.out.row.later hal2)
          have HB4 := Lib.hid (bel_next HJ.out.bel hal2)
          clear hc hp hst hsh hal hal2
          go_wp2_with (at_builtin; refine wpList_appP (w := w3.alloc (.cells #[.string y, .int .i64 p.t, .int .i64 p.v, .int .i64 p.st.c, .int .i64 p.st.s, .int .i64 p.st.q] 32)) rfl _ _ rfl w.heap.size r (.slice a5 r c5) ((l.take k).map Pt.short) ⟨y, p.t, p.v, p.st⟩ (w3.heap.size + 1) rfl rfl (by simp) (Lib.hid HJ.out.len) HR4.out (by omega) HB4.out.size ?_; intro a6 c6 w6 hrow6 _ hb6 _; have HR6 := Lib.hid hrow6.out; have HB6 := Lib.hid (HB4.out.trans hb6); clear hrow6 hb6)
          clear c0' c1 c2 c3 c4 c5'
          go_roundw
          case rel => exact ⟨k + 1, r + 1, a6, c6, by omega, by omega, by go_num, rfl, Lib.hid ⟨by rw [HST.out]; exact HR6.out, by rw [HST.out, List.length_append, HJ.out.len]; rfl, HB6.out⟩⟩
          case measure => simp [intOf]; omega
        · have hsi : ¬ (60 : Int) < (p.s.size : Int) := by omega
          have hsh : Pt.short p = p := by
            unfold Pt.short cutB; rw [if_neg hs]
          rw [hsh] at hst
          have HST := Lib.hid hst
          have HR4 := Lib.hid (HJ.out.row.later hal)
          clear hc hp hst hsh hal
          go_wp2_with (at_builtin; refine wpList_appP (w := w3.alloc (.cells #[.string p.s, .int .i64 p.t, .int .i64 p.v, .int .i64 p.st.c, .int .i64 p.st.s, .int .i64 p.st.q] 32)) rfl _ _ rfl w.heap.size r (.slice a5 r c5) ((l.take k).map Pt.short) p (w3.heap.size + 1) rfl rfl (by simp) (Lib.hid HJ.out.len) HR4.out (by omega) HB1.out.size ?_; intro a6 c6 w6 hrow6 _ hb6 _; have HR6 := Lib.hid hrow6.out; have HB6 := Lib.hid (HB1.out.trans hb6); clear hrow6 hb6)
          clear c0' c1 c2 c3 c4 c5'
          go_roundw
          case rel => exact ⟨k + 1, r + 1, a6, c6, by omega, by omega, by go_num, rfl, Lib.hid ⟨by rw [HST.out]; exact HR6.out, by rw [HST.out, List.length_append, HJ.out.len]; rfl, HB6.out⟩⟩
          case measure => simp [intOf]; omega
    · have hend : (l.take k).map Pt.short = fewB l := by
        unfold fewB
        by_cases e : k = 40
        · rw [e]
        · rw [List.take_of_length_le (show l.length ≤ k by omega), List.take_of_length_le (show l.length ≤ 40 by omega)]
      have HE := Lib.hid hend
      have hg2 : ((k : Int) < (l.length : Int) ∧ ¬ (k : Int) < 40) ∨ ¬ (k : Int) < (l.length : Int) := by omega
      clear hgo hend
      rcases hg2 with ⟨hg2, hg3⟩ | hg2
      · go_wp2
        go_ret
        exact ⟨_, rfl, by rw [← HE.out]; exact HJ.out.row, HJ.out.bel⟩
      · go_wp2
        go_ret
        exact ⟨_, rfl, by rw [← HE.out]; exact HJ.out.row, HJ.out.bel⟩
/-- The law's point. -/
def ptA (t c : Int) : Pt := ⟨⟨#[97]⟩, t, c, ⟨c, 0, 1⟩⟩
set_option maxHeartbeats 4000000 in
theorem point_is (t c : Int) (w : World) (hc : -9223372036854775808 ≤ c ∧ c ≤ 9223372036854775807) : Calls Tryd.prog 32 #[.int .i64 t, .int .i64 c] w fun e w' => e = .returned (ptV (ptA t c)) ∧ Below w.heap.size w w' := by
  have hwc : IntKind.i64.wrap c = c := by rw [IntKind.wrap_i64]; omega
  unfold ptV ptA
  dsimp only
  go_enter Tryd.func32, Tryd.ntmps32
  go_wp2
  refine bodyPost_ret (v := .agg #[.string ⟨#[97]⟩, .int .i64 t, .int .i64 c, .int .i64 c, .int .i64 0, .int .i64 1]) (by simp [results, Tryd.results32, go_sem]; try rfl) rfl ⟨rfl, ?_⟩
  exact (Below.refl _ _).alloc (Nat.le_refl _) _
end Go.Proofs.YtkomfenjeoaelaaDoor
