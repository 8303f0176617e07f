/- The contract of the document's Spans. -/
import Derived.Test.YtdkenokjdiamhaaDoorWindowSet
set_option maxRecDepth 20000
namespace Go.Proofs.YtdkenokjdiamhaaDoor
open Go.RowKit

/-- A time is put behind the spans of the times before it. -/
def addS (l : List Sp) (k : Nat) : List Sp :=
  if 0 < l.length ∧ (l.getD (l.length - 1) Sp.zero).t = (k : Int) then l.set (l.length - 1) ⟨(l.getD (l.length - 1) Sp.zero).f, (k : Int) + 1⟩ else l ++ [⟨(k : Int), (k : Int) + 1⟩]
/-- The spans of the first k bits. -/
def spansN (B : List Bool) : Nat → List Sp
  | 0 => []
  | k + 1 => if B.getD k false = true then addS (spansN B k) k else spansN B k
theorem addS_length (l : List Sp) (k : Nat) : (addS l k).length ≤ l.length + 1 := by
  unfold addS; split <;> simp
theorem spansN_length (B : List Bool) (k : Nat) : (spansN B k).length ≤ k := by
  induction k with
  | zero => simp [spansN]
  | succ k ih =>
    simp only [spansN]
    split
    · have := addS_length (spansN B k) k; omega
    · omega
theorem flat2_set (l : List Sp) : ∀ (j : Nat) (h : j < l.length) (T : Int), (l.set j ⟨l[j].f, T⟩).flatMap cells2 = (l.flatMap cells2).set (j * 2 + 1) (.int .i64 T) := by
  induction l with
  | nil => intro j h; simp at h
  | cons a t ih =>
    intro j h T
    cases j with
    | zero => simp [cells2]
    | succ j =>
      have h2 : j < t.length := by simpa using h
      have e : (j + 1) * 2 + 1 = j * 2 + 1 + 2 := by omega
      rw [e]
      simp only [List.set_cons_succ, List.flatMap_cons, List.getElem_cons_succ]
      rw [ih j h2 T]
      simp [cells2]
theorem SpRow.setT {w : World} {B q c : Nat} {l : List Sp} (h : SpRow w B (.slice (some ⟨q, 0, none⟩) l.length c) l) (j : Nat) (hj : j < l.length) (T : Int) :
    SpRow (w.setCell ⟨q, j * 2 + 1, none⟩ (.int .i64 T)) B (.slice (some ⟨q, 0, none⟩) l.length c) (l.set j ⟨l[j].f, T⟩) := by
  unfold SpRow
  rw [List.length_set, flat2_set l j hj T]
  exact (World.ownsRow.stored h (j * 2 + 1) (.int .i64 T)).1
/-- What Spans answers. -/
def SpnDone (l : List Sp) (w : World) (e : Ending) (w' : World) : Prop := ∃ v, e = .returned v ∧ SpRow w' w.heap.size v l ∧ Below w.heap.size w w'
set_option maxHeartbeats 8000000 in
theorem rspans_is (b : Nat) (v : Value) (B : List Bool) (w : World) (h : BitsAt w b v B) (hl : B.length ≤ 1000) : Calls Tryd.prog 38 #[.pointer (some ⟨b, 0, none⟩)] w (SpnDone (spansN B B.length) w) := by
  obtain ⟨i0, hi, hz0, hz1, hz2⟩ := info_parts infoSp
  have H := Lib.hid h
  obtain ⟨N, hN⟩ : ∃ N, B.length = N := ⟨_, rfl⟩
  obtain ⟨a0, c0, hv⟩ := h.row.slice
  have hcell := h.cell
  have HN := Lib.hid hN
  have hroom := h.room
  subst hv
  rw [hN] at hcell hl
  clear h hN
  go_enter Tryd.func38, Tryd.ntmps38
  go_wp2
  go_loopw [3, 4] (fun o i wr => ∃ k : Nat, k ≤ N ∧ i = .int .i64 (k : Int) ∧ SpRow wr w.heap.size o (spansN B k) ∧ Below w.heap.size w wr) (fun _ i _ => N - (intOf i).toNat)
  case atStart => exact ⟨0, by omega, rfl, SpRow.nil _ _, Below.refl _ _⟩
  case round =>
    obtain ⟨k, hk, rfl, R, hB⟩ := hrel
    have hc := (hB.cell (p := ⟨b, 0, none⟩) hroom).trans hcell
    by_cases hlt : k < N
    · have hlti : (k : Int) < (N : Int) := by omega
      have hrow := (H.out.later hB).row
      unfold BRow at hrow
      rw [HN.out] at hrow
      obtain ⟨g, rfl⟩ : ∃ g, a0 = some ⟨g, 0, none⟩ := by
        rcases hrow.2 with ⟨_, h0⟩ | ⟨g, cap, cur, h1, _⟩
        · omega
        · injection h1 with h1; exact ⟨g, h1⟩
      have hkB : k < B.length := by have := HN.out; omega
      obtain ⟨y, hy⟩ : ∃ y, B[k] = y := ⟨_, rfl⟩
      have hat : wr.cell? ⟨g, k, none⟩ = some (.bool y) := by
        rw [World.ownsRow.cellAt hrow k (by omega), List.getElem?_map, List.getElem?_eq_getElem hkB, hy]; rfl
      have hgd : B.getD k false = y := by rw [List.getD_eq_getElem?_getD, List.getElem?_eq_getElem hkB, hy]; rfl
      have hS : spansN B (k + 1) = if y = true then addS (spansN B k) k else spansN B k := by simp only [spansN]; rw [hgd]
      have hlen := spansN_length B k
      obtain ⟨l, hl2⟩ : ∃ l, spansN B k = l := ⟨_, rfl⟩
      rw [hl2] at hS hlen R
      have HB := Lib.hid hB
      clear hrow hy hgd hl2
      cases y with
      | false =>
        rw [if_neg (by simp)] at hS
        have HS := Lib.hid hS
        have HR := Lib.hid R
        clear hS R hB
        go_wp2
        go_roundw
        case rel => exact ⟨k + 1, by omega, by go_num, by rw [HS.out]; exact HR.out, HB.out⟩
        case measure => simp [intOf]; omega
      | true =>
        rw [if_pos rfl] at hS
        have hw1 : IntKind.i64.wrap ((k : Int) + 1) = (k : Int) + 1 := by rw [IntKind.wrap_i64]; omega
        have hBs := HB.out.size
        by_cases hl0 : l.length = 0
        · have hle : l = [] := List.eq_nil_of_length_eq_zero hl0
          have HS := Lib.hid (show spansN B (k + 1) = l ++ [⟨(k : Int), (k : Int) + 1⟩] by rw [hS]; unfold addS; rw [if_neg (by omega)])
          obtain ⟨a2, c2, ho⟩ := R.slice
          rw [hl0] at ho
          subst ho
          have hrow2 : wr.ownsRow w.heap.size 26 2 (.slice a2 0 c2) 0 (l.flatMap cells2) := by have := R; unfold SpRow at this; rw [hl0] at this; exact this
          have hne : ∀ p, (Value.slice a2 0 c2).ownBlock = some p → w.heap.size ≤ p := fun p hp => (World.ownsRow.lt hrow2 p hp).1
          have HL := Lib.hid hl0
          clear hS R hB hl0 hle
          go_wp2_with (first
            | (at_builtin; refine wpList_append_own _ rfl _ _ 29 rfl w.heap.size 26 i0 (.agg #[.int .i64 0, .int .i64 0]) 2 16 Tryd.underlying29 hi hz0 hz1 hz2 rfl (by decide) _ _ _ rfl (hrow2.alloc _) ⟨wr.heap.size, 0, none⟩ 1 1 (cells2 ⟨(k : Int), (k : Int) + 1⟩) rfl rfl ?c1 ?c2 ?c3 ?c4 ?c5 ?_))
          case c1 =>
            intro j x hj
            match j, hj with
            | 0, hj | 1, hj => simp [cells2] at hj; subst hj; first | (simp [Addr.add]; done) | (simp [go_sem, Addr.add]; done) | (simp; done)
          case c2 => intro x hx; simp [cells2] at hx; rcases hx with rfl | rfl <;> rfl
          case c3 => have := HL.out; unfold maxLen; omega
          case c4 => have := HL.out; omega
          case c5 => (try simp); omega
          intro v3 w3 hown hgrow _
          have HR := Lib.hid (show SpRow w3 w.heap.size v3 (l ++ [⟨(k : Int), (k : Int) + 1⟩]) by
            unfold SpRow
            rw [List.length_append, List.flatMap_append, HL.out]
            simpa [cells2] using hown)
          have HB2 := Lib.hid (HB.out.trans (((Below.refl w.heap.size wr).alloc hBs _).grown hgrow (by simp; omega) hne))
          clear hown hgrow hne hrow2
          go_wp2
          go_roundw
          case rel => exact ⟨k + 1, by omega, by go_num, by rw [HS.out]; exact HR.out, HB2.out⟩
          case measure => simp [intOf]; omega
        · obtain ⟨m, hm⟩ : ∃ m, l.length = m + 1 := ⟨l.length - 1, by omega⟩
          obtain ⟨a2, c2, ho⟩ := R.slice
          rw [hm] at ho
          subst ho
          obtain ⟨q, rfl⟩ : ∃ q, a2 = some ⟨q, 0, none⟩ := by
            rcases R.2 with ⟨_, h0⟩ | ⟨g, cap, cur, h1, _⟩
            · omega
            · injection h1 with h1; exact ⟨g, h1⟩
          have hrow2 : wr.ownsRow w.heap.size 26 2 (.slice (some ⟨q, 0, none⟩) (m + 1) c2) (m + 1) (l.flatMap cells2) := by have := R; unfold SpRow at this; rw [hm] at this; exact this
          have hml : m < l.length := by omega
          obtain ⟨z, hz⟩ : ∃ z, l[m] = z := ⟨_, rfl⟩
          have hzt : wr.cell? ⟨q, m * 2 + 1, none⟩ = some (.int .i64 z.t) := by
            rw [World.ownsRow.cellAt hrow2 (m * 2 + 1) (by omega), flat2_at l m hml 1 (by omega), hz]; rfl
          have hzf := World.ownsRow.frozenAt hrow2 (m * 2 + 1)
          have hgz : l.getD (l.length - 1) Sp.zero = z := by rw [List.getD_eq_getElem?_getD, hm, Nat.add_sub_cancel, List.getElem?_eq_getElem hml, hz]; rfl
          obtain ⟨L, hL⟩ : ∃ L, m + 1 = L := ⟨_, rfl⟩
          have hLp : (0 : Int) < (L : Int) := by omega
          have hLm : (L : Int) - 1 = (m : Int) := by omega
          have hmL : (m : Int) < (L : Int) := by omega
          have hwm : IntKind.i64.wrap (m : Int) = (m : Int) := by rw [IntKind.wrap_i64]; omega
          rw [hL] at hrow2 R ⊢
          rw [hL] at hm
          have HL := Lib.hid hm
          have HLM := Lib.hid hL
          unfold addS at hS
          rw [hgz] at hS
          by_cases hzk : z.t = (k : Int)
          · rw [if_pos ⟨by omega, hzk⟩] at hS
            have hset := SpRow.setT (w := wr) (B := w.heap.size) (q := q) (c := c2) (l := l) (by rw [hm]; exact R) m hml ((k : Int) + 1)
            have HS := Lib.hid (show spansN B (k + 1) = l.set m ⟨z.f, (k : Int) + 1⟩ by rw [hS, hm]; congr 1; omega)
            rw [hz] at hset
            have hqB : w.heap.size ≤ q := (World.ownsRow.lt hrow2 q rfl).1
            have HR := Lib.hid (show SpRow (wr.setCell ⟨q, m * 2 + 1, none⟩ (.int .i64 ((k : Int) + 1))) w.heap.size (.slice (some ⟨q, 0, none⟩) L c2) (l.set m ⟨z.f, (k : Int) + 1⟩) by rw [hm] at hset; exact hset)
            have HB2 := Lib.hid (HB.out.setCell (p := ⟨q, m * 2 + 1, none⟩) hqB (.int .i64 ((k : Int) + 1)))
            rw [hzk] at hzt
            clear hS R hB hset hrow2 hz hgz hzk hL hm hqB hml
            go_wp2
            go_roundw
            case rel => exact ⟨k + 1, by omega, by go_num, by rw [HS.out]; exact HR.out, HB2.out⟩
            case measure => simp [intOf]; omega
          · rw [if_neg (by omega)] at hS
            have HS := Lib.hid hS
            have hzk2 : ((z.t == (k : Int)) = false) := by simpa using hzk
            have hne : ∀ p, (Value.slice (some ⟨q, 0, none⟩) L c2).ownBlock = some p → w.heap.size ≤ p := fun p hp => (World.ownsRow.lt hrow2 p hp).1
            clear hS R hB hz hgz hL hm hml
            go_wp2_with (first
              | (at_builtin; refine wpList_append_own _ rfl _ _ 29 rfl w.heap.size 26 i0 (.agg #[.int .i64 0, .int .i64 0]) 2 16 Tryd.underlying29 hi hz0 hz1 hz2 rfl (by decide) _ _ _ rfl (hrow2.alloc _) ⟨wr.heap.size, 0, none⟩ 1 1 (cells2 ⟨(k : Int), (k : Int) + 1⟩) rfl rfl ?c1 ?c2 ?c3 ?c4 ?c5 ?_))
            case c1 =>
              intro j x hj
              match j, hj with
              | 0, hj | 1, hj => simp [cells2] at hj; subst hj; first | (simp [Addr.add]; done) | (simp [go_sem, Addr.add]; done) | (simp; done)
            case c2 => intro x hx; simp [cells2] at hx; rcases hx with rfl | rfl <;> rfl
            case c3 => have := HL.out; unfold maxLen; omega
            case c4 => have := HL.out; omega
            case c5 => (try simp); omega
            intro v3 w3 hown hgrow _
            have HR := Lib.hid (show SpRow w3 w.heap.size v3 (l ++ [⟨(k : Int), (k : Int) + 1⟩]) by
              unfold SpRow
              rw [List.length_append, List.flatMap_append, HL.out]
              simpa [cells2] using hown)
            have HB2 := Lib.hid (HB.out.trans (((Below.refl w.heap.size wr).alloc hBs _).grown hgrow (by simp; omega) hne))
            clear hown hgrow hne hrow2
            go_wp2
            go_roundw
            case rel => exact ⟨k + 1, by omega, by go_num, by rw [HS.out]; exact HR.out, HB2.out⟩
            case measure => simp [intOf]; omega
    · obtain rfl : k = N := by omega
      have hlti : ¬ (k : Int) < (k : Int) := by omega
      have HR := Lib.hid R
      have HB := Lib.hid hB
      clear R hB
      go_wp2
      go_ret
      exact ⟨_, rfl, by rw [HN.out]; exact HR.out, HB.out⟩
end Go.Proofs.YtdkenokjdiamhaaDoor
