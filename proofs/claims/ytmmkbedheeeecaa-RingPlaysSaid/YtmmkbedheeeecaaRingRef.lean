/- The document's Nodes and Prefer (the latter over its Points). -/
import Derived.Test.YtmmkbedheeeecaaRingAsk
import Derived.WalkMore
import Derived.Deep.LoopGhost
set_option maxRecDepth 20000
set_option linter.unusedSimpArgs false
namespace Go.Proofs.Ytmmkbedheeeecaa
open Go.RowKit

set_option maxHeartbeats 1000000 in
theorem rnodes_is (v : Value) (l : List Int) (w : World) (h : Ns w v l) : Calls Try.prog 20 #[v] w (IDone (nodesL l) w) := by
  obtain ⟨a, cap, rfl⟩ := h.slice
  have hsz := h.size
  have H := Lib.hid h
  obtain ⟨n, hn⟩ : ∃ n, l.length = n := ⟨_, rfl⟩
  rw [hn] at hsz ⊢
  have HN := Lib.hid hn
  clear h hn
  go_enter Try.func20, Try.ntmps20
  go_wp2
  go_loopg [3, 4] 16 (fun g out i wr => ∃ k : Nat, k + g = 16 ∧ i = .int .i64 (k : Int) ∧ IRow wr w.heap.size out (nodesK l k) ∧ Below w.heap.size w wr)
  case atStart => exact ⟨0, by omega, rfl, IRow.nil _ _, Below.refl _ _⟩
  case round =>
    obtain ⟨k, hk, rfl, hR, hB⟩ := hrel
    obtain ⟨w2, hw2⟩ : ∃ w2, w2 = wr := ⟨_, rfl⟩
    subst hw2
    obtain ⟨a3, d3, rfl⟩ := hR.slice
    have hlen1 := (nodesK_ok l k).1
    obtain ⟨m, hmm⟩ : ∃ m, (nodesK l k).length = m := ⟨_, rfl⟩
    rw [hmm] at hR hlen1 ⊢
    have HMM := Lib.hid hmm
    have HR := Lib.hid hR
    have HB := Lib.hid hB
    have HL := Lib.hid hlen1
    clear hR hmm hlen1
    cases gk with
    | zero =>
      obtain rfl : k = 16 := by omega
      clear hB hk
      go_wp2
      go_ret
      exact ⟨_, rfl, HR.out, HB.out⟩
    | succ g =>
      have hlt : (k : Int) < 16 := by omega
      have hHn := H.out.later hB
      have HH := Lib.hid hHn
      clear hB hHn
      go_wp2
      go_loopg [3, 5] n (fun g2 ov j wy => ∃ q : Nat, q + g2 = n ∧ ov = .slice a3 m d3 ∧ j = .int .i64 (q : Int) ∧ wy = w2 ∧ Hid (∀ t (ht : t < l.length), t < q → l[t] ≠ (k : Int)))
      case atStart => exact ⟨0, by omega, rfl, rfl, rfl, Lib.hid fun t _ ht => absurd ht (Nat.not_lt_zero _)⟩
      case round =>
        obtain ⟨q, hq, rfl, rfl, rfl, hall⟩ := hrel
        cases gk with
        | zero =>
          have hqn : ¬ (q : Int) < (n : Int) := by omega
          have HX := Lib.hid (nodesK_no (inL_no (l := l) (x := (k : Int)) fun t ht => hall.out t ht (by rw [HN.out] at ht; omega)))
          go_wp2
          go_roundg g
          case measure => omega
          case rel => exact ⟨k + 1, by omega, by go_num, by rw [HX.out]; exact HR.out, HB.out⟩
        | succ g2 =>
          have hqn : (q : Int) < (n : Int) := by omega
          have hql : q < l.length := by rw [HN.out]; omega
          obtain ⟨-, b, off, rfl, hc⟩ := HH.out.cell (by omega)
          have c1 := hc q hql
          obtain ⟨y, hy⟩ : ∃ y, l[q] = y := ⟨_, rfl⟩
          rw [hy] at c1
          have HY := Lib.hid hy
          clear hc hy
          by_cases hyk : y = (k : Int)
          · have hq2 : (y == (k : Int)) = true := by simpa using hyk
            have HX := Lib.hid (nodesK_yes (inL_yes (l := l) hql (HY.out.trans hyk)))
            have hB1 := HB.out.size
            have hr := HR.out
            have hl1 := HL.out
            clear hyk
            go_wp2_with (at_builtin; refine wpList_irow rfl _ _ rfl w.heap.size (.slice a3 m d3) (nodesK l k) rfl (k : Int) rfl hr hB1 (by rw [HMM.out]; omega) ?_)
            intro v4 w4 hr4 hb4 G4
            have HR4 := Lib.hid hr4
            have HB4 := Lib.hid (HB.out.trans hb4)
            clear hr4 hb4 G4 hr hl1 hB1
            go_wp2
            go_roundg g
            case measure => omega
            case rel => exact ⟨k + 1, by omega, by go_num, by rw [HX.out]; exact HR4.out, HB4.out⟩
          · have hq2 : (y == (k : Int)) = false := by simpa using hyk
            have HYK := Lib.hid hyk
            clear hyk
            go_wp2
            go_roundg g2
            case measure => omega
            case rel =>
              refine ⟨q + 1, by omega, rfl, by go_num, rfl, Lib.hid fun t ht h1 => ?_⟩
              by_cases e : t = q
              · subst e; rw [HY.out]; exact HYK.out
              · exact hall.out t ht (by omega)
end Go.Proofs.Ytmmkbedheeeecaa
