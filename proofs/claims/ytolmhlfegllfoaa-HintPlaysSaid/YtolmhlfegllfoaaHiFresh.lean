/- What is new for some nodes. -/
import Derived.Test.YtolmhlfegllfoaaHiRow
set_option maxRecDepth 20000
set_option linter.unusedSimpArgs false
set_option linter.unusedVariables false
namespace Go.Proofs.Ytolmhlfegllfoaa.Qu.Hi
open Go.RowKit Go.Maps Go.Proofs.Ytolmhlfegllfoaa.Vi Go.Proofs.Ytolmhlfegllfoaa.Mk

theorem pickN_yes {q : Int → Bool} {k : Nat} (h : q (k : Int) = true) : pickN q (k + 1) = pickN q k ++ [(k : Int)] := by
  unfold pickN
  rw [List.range_succ, List.map_append, List.filter_append]
  simp [h]
theorem pickN_no {q : Int → Bool} {k : Nat} (h : q (k : Int) = false) : pickN q (k + 1) = pickN q k := by
  unfold pickN
  rw [List.range_succ, List.map_append, List.filter_append]
  simp [h]
theorem pickN_len (q : Int → Bool) (k : Nat) : (pickN q k).length ≤ k := by
  unfold pickN
  refine Nat.le_trans (List.length_filter_le _ _) ?_
  simp
def frK (L : List Hk) (p : Pt) (l : List Int) (k : Nat) : List Hk := (pickN (newB L p l) k).map fun n => ⟨p, n⟩
structure FrJ (w wr : World) (L : List Hk) (p : Pt) (l : List Int) (k r : Nat) (v : Value) : Prop where
  row : HRow 66 wr (w.heap.size + 1) v (frK L p l k)
  len : (frK L p l k).length = r
  bel1 : Below (w.heap.size + 1) (w.alloc (.cells #[.string p.s, .int .i64 p.t, .int .i64 p.v, .int .i64 p.st.c, .int .i64 p.st.s, .int .i64 p.st.q] 31)) wr
theorem FrJ.bel {w wr : World} {L : List Hk} {p : Pt} {l : List Int} {k r : Nat} {v : Value} (h : FrJ w wr L p l k r v) : Below w.heap.size w wr := ((Below.refl w.heap.size w).alloc (Nat.le_refl _) _).trans (h.bel1.mono (by omega))
theorem FrJ.pt {w wr : World} {L : List Hk} {p : Pt} {l : List Int} {k r : Nat} {v : Value} (h : FrJ w wr L p l k r v) : PtAt wr w.heap.size p := (PtAt.new w p).below h.bel1 (by omega)
def FrDone (w : World) (L : List Hk) (p : Pt) (l : List Int) (e : Ending) (w' : World) : Prop := ∃ v, e = .returned v ∧ HRow 66 w' w.heap.size v (freshL L p l) ∧ Below w.heap.size w w'
set_option maxHeartbeats 4000000 in
theorem fresh_is {w : World} {B b : Nat} {mv : Option Nat} {room : Int} {L : List Hk} (h : HiAt w B b mv room L) (p : Pt) (hp : ∀ k : Nat, k < 16 → Hk.big ⟨p, (k : Int)⟩) (v : Value) (l : List Int) (hN : Ns w v l) : Calls Try.prog 33 #[.pointer (some ⟨b, 0, none⟩), ptV p, v] w (FrDone w L p l) := by
  have kc := fun (k : Nat) (W : World) (hb : Below w.heap.size w W) => contains_is v l (k : Int) W (Ns.later hN hb)
  have kh := fun (x : Hk) (hx : x.big) (W : World) (h : HiAt W B b mv room L) => has_is h x hx
  obtain ⟨a0, c0, rfl⟩ := hN.slice
  have H := Lib.hid h
  have HP := Lib.hid hp
  have hal := (Below.refl w.heap.size w).alloc (Nat.le_refl _) (.cells #[.string p.s, .int .i64 p.t, .int .i64 p.v, .int .i64 p.st.c, .int .i64 p.st.s, .int .i64 p.st.q] 31)
  have HAL := Lib.hid hal
  have HPT := Lib.hid (PtAt.new w p)
  clear h hp hN hal
  unfold ptV
  go_enter Try.func33, Try.ntmps33
  go_wp2
  go_loopg [7, 10] 16 (fun g o i wr => ∃ (k r : Nat) (a5 : Option Addr) (c5 : Nat), k + g = 16 ∧ i = .int .i64 (k : Int) ∧ o = .slice a5 r c5 ∧ Hid (FrJ w wr L p l k r (.slice a5 r c5)))
  case atStart => exact ⟨0, 0, none, 0, by omega, rfl, rfl, Lib.hid ⟨HRow.nil _ _ _, rfl, Below.refl _ _⟩⟩
  case round =>
    obtain ⟨k, r, a5, c5, hk, rfl, rfl, HJ⟩ := hrel
    obtain ⟨w3, hw3⟩ : ∃ x, x = wr := ⟨_, rfl⟩
    subst hw3
    cases gk with
    | zero =>
      obtain rfl : k = 16 := by omega
      clear hk
      go_wp2
      go_ret
      exact ⟨_, rfl, HJ.out.row.base (by omega), HJ.out.bel⟩
    | succ g =>
      have hlt : (k : Int) < 16 := by omega
      have hk16 : k < 16 := by omega
      have hrk : r ≤ 16 := by have := HJ.out.len; unfold frK at this; rw [List.length_map] at this; have := pickN_len (newB L p l) k; omega
      obtain ⟨x0, x1, x2, x3, x4, x5⟩ := HJ.out.pt
      have HK := Lib.hid (K7.new w3 ⟨p, (k : Int)⟩)
      have HB1 := Lib.hid (bel_new HJ.out.bel (box7 ⟨p, (k : Int)⟩))
      have HAL3 := Lib.hid ((Below.refl w3.heap.size w3).alloc (Nat.le_refl _) (box7 ⟨p, (k : Int)⟩))
      have HC1 := Lib.hid (show Below (w.heap.size + 1) _ (w3.alloc (box7 ⟨p, (k : Int)⟩)) from HJ.out.bel1.alloc (by have := HJ.out.bel1.size; simpa using this) _)
      have HC2 := Lib.hid (show w.heap.size + 1 ≤ (w3.alloc (box7 ⟨p, (k : Int)⟩)).heap.size by have := HC1.out.size; simpa using this)
      have HA := Lib.hid ((H.out.later HJ.out.bel).alloc (box7 ⟨p, (k : Int)⟩))
      have kck := kc k _ HB1.out
      have khk := kh ⟨p, (k : Int)⟩ (HP.out k hk16) _ HA.out
      cases hz : inL l (k : Int) with
      | false =>
        have HX := Lib.hid (show frK L p l (k + 1) = frK L p l k by unfold frK; rw [pickN_no]; unfold newB; rw [hz]; rfl)
        rw [hz] at kck
        clear khk hz hk16
        go_wp2_with (go_at_call 48; (with_reducible refine kck.mono ?_); rintro e w4 ⟨rfl, rfl⟩)
        go_roundg g
        case measure => omega
        case rel => exact ⟨k + 1, r, a5, c5, by omega, by go_num, rfl, Lib.hid ⟨by rw [HX.out]; exact HJ.out.row.later HAL3.out, by rw [HX.out]; exact HJ.out.len, HC1.out⟩⟩
      | true =>
        cases hz2 : hasB L ⟨p, (k : Int)⟩ with
        | true =>
          have HX := Lib.hid (show frK L p l (k + 1) = frK L p l k by unfold frK; rw [pickN_no]; unfold newB; rw [hz, hz2]; rfl)
          rw [hz] at kck
          rw [hz2] at khk
          have HK0 := HK.out.c0
          obtain ⟨y0, y1, y2, y3, y4, y5, y6⟩ := HK.out
          unfold hkV at khk
          clear hz hz2 hk16
          go_wp2_with (first
            | (go_at_call 48; (with_reducible refine kck.mono ?_); rintro e w4 ⟨rfl, rfl⟩)
            | (go_at_call 39; (with_reducible refine khk.mono ?_); rintro e w5 ⟨rfl, hb5⟩; (have HB5 := Lib.hid hb5); clear hb5))
          go_roundg g
          case measure => omega
          case rel => exact ⟨k + 1, r, a5, c5, by omega, by go_num, rfl, Lib.hid ⟨by rw [HX.out]; exact (HJ.out.row.later HAL3.out).later HB5.out, by rw [HX.out]; exact HJ.out.len, HC1.out.trans (HB5.out.mono HC2.out)⟩⟩
        | false =>
          have HX := Lib.hid (show frK L p l (k + 1) = frK L p l k ++ [⟨p, (k : Int)⟩] by unfold frK; rw [pickN_yes, List.map_append]; rfl; unfold newB; rw [hz, hz2]; rfl)
          rw [hz] at kck
          rw [hz2] at khk
          obtain ⟨y0, y1, y2, y3, y4, y5, y6⟩ := HK.out
          unfold hkV at khk
          clear hz hz2 hk16
          go_wp2_with (first
            | (go_at_call 48; (with_reducible refine kck.mono ?_); rintro e w4 ⟨rfl, rfl⟩)
            | (go_at_call 39; (with_reducible refine khk.mono ?_); rintro e w5 ⟨rfl, hb5⟩; (have HB5 := Lib.hid hb5); (have HBW := Lib.hid (HC1.out.trans (hb5.mono HC2.out))); (have HS5 := Nat.le_trans HC2.out hb5.size); (have HK5 := HK.out.later hb5); (obtain ⟨z0, z1, z2, z3, z4, z5, z6⟩ := HK5); (have HR5 := Lib.hid ((HJ.out.row.later HAL3.out).later hb5)); clear hb5)
            | (at_builtin; refine wpList_appH htyK (w := w5) rfl _ _ rfl (w.heap.size + 1) r (.slice a5 r c5) (frK L p l k) ⟨p, (k : Int)⟩ w5.heap.size rfl rfl rfl (Lib.hid HJ.out.len) HR5.out ?hlen HS5 ?_; (case hlen => omega); intro a6 c6 w6 hr6 _ hb6 _; (have HB6 := Lib.hid (HBW.out.trans hb6)); clear hb6))
          go_roundg g
          case measure => omega
          case rel => exact ⟨k + 1, r + 1, a6, c6, by omega, by go_num, rfl, Lib.hid ⟨by rw [HX.out]; exact hr6.out, by rw [HX.out, List.length_append, HJ.out.len]; rfl, HB6.out⟩⟩
end Go.Proofs.Ytolmhlfegllfoaa.Qu.Hi
