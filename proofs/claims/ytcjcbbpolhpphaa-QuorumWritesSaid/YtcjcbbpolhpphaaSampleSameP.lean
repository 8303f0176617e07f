/- The contract of the document's SamePoints. -/
import Derived.Test.YtcjcbbpolhpphaaSamplePts
import Derived.BigQuiet
set_option maxRecDepth 20000
namespace Go.Proofs.Ytcjcbbpolhpphaa
open Go.RowKit Go.Proofs.Ytcjcbbpolhpphaa.Vi Go.Proofs.Ytcjcbbpolhpphaa.Mk

def Pt.same (a b : Pt) : Bool := decide (a.s = b.s) && (decide (a.t = b.t) && (decide (a.v = b.v) && decide (a.st = b.st)))
theorem Pt.same_iff {a b : Pt} : a.same b = true ↔ a = b := by
  obtain ⟨s1, t1, v1, x1⟩ := a
  obtain ⟨s2, t2, v2, x2⟩ := b
  simp [Pt.same]
instance : DecidableEq Pt := fun a b => decidable_of_iff (a.same b = true) Pt.same_iff
theorem eql_run6 (a b : Pt) (w : World) : (binOp .eql 55 (ptV a) (ptV b)).run Try.prog w = .ok (.bool (a.same b)) w := by
  obtain ⟨s1, t1, v1, c1, n1, q1⟩ := a
  obtain ⟨s2, t2, v2, c2, n2, q2⟩ := b
  have e : decide (St.mk c1 n1 q1 = St.mk c2 n2 q2) = (decide (c1 = c2) && (decide (n1 = n2) && decide (q1 = q2))) := by
    rw [Bool.eq_iff_iff]; simp
  unfold Pt.same ptV
  dsimp only
  rw [e]
  by_cases e1 : s1 = s2
  · have f1 := seq_eq e1
    by_cases e2 : t1 = t2
    · by_cases e3 : v1 = v2
      · by_cases e4 : c1 = c2
        · by_cases e5 : n1 = n2
          · by_cases e6 : q1 = q2
            · subst e1 e2 e3 e4 e5 e6; simp [go_sem]
            · have f6 : (q1 == q2) = false := by simpa using e6
              subst e1 e2 e3 e4 e5; simp [go_sem, e6, f6]
          · have f5 : (n1 == n2) = false := by simpa using e5
            subst e1 e2 e3 e4; simp [go_sem, e5, f5]
        · have f4 : (c1 == c2) = false := by simpa using e4
          subst e1 e2 e3; simp [go_sem, e4, f4]
      · have f3 : (v1 == v2) = false := by simpa using e3
        subst e1 e2; simp [go_sem, e3, f3]
    · have f2 : (t1 == t2) = false := by simpa using e2
      subst e1; simp [go_sem, e2, f2]
  · have f1 := seq_ne e1
    simp [go_sem, e1, f1]
theorem neq_run6 (a b : Pt) (w : World) : (binOp .neq 55 (ptV a) (ptV b)).run Try.prog w = .ok (.bool (!(a.same b))) w := by
  obtain ⟨s1, t1, v1, c1, n1, q1⟩ := a
  obtain ⟨s2, t2, v2, c2, n2, q2⟩ := b
  have e : decide (St.mk c1 n1 q1 = St.mk c2 n2 q2) = (decide (c1 = c2) && (decide (n1 = n2) && decide (q1 = q2))) := by
    rw [Bool.eq_iff_iff]; simp
  unfold Pt.same ptV
  dsimp only
  rw [e]
  by_cases e1 : s1 = s2
  · have f1 := seq_eq e1
    by_cases e2 : t1 = t2
    · by_cases e3 : v1 = v2
      · by_cases e4 : c1 = c2
        · by_cases e5 : n1 = n2
          · by_cases e6 : q1 = q2
            · subst e1 e2 e3 e4 e5 e6; simp [go_sem]
            · have f6 : (q1 == q2) = false := by simpa using e6
              subst e1 e2 e3 e4 e5; simp [go_sem, e6, f6]
          · have f5 : (n1 == n2) = false := by simpa using e5
            subst e1 e2 e3 e4; simp [go_sem, e5, f5]
        · have f4 : (c1 == c2) = false := by simpa using e4
          subst e1 e2 e3; simp [go_sem, e4, f4]
      · have f3 : (v1 == v2) = false := by simpa using e3
        subst e1 e2; simp [go_sem, e3, f3]
    · have f2 : (t1 == t2) = false := by simpa using e2
      subst e1; simp [go_sem, e2, f2]
  · have f1 := seq_ne e1
    simp [go_sem, e1, f1]
/-- Two lists are the same. -/
def sameP (a b : List Pt) : Bool := decide (a = b)

set_option maxHeartbeats 2000000 in
theorem rsamep_is (a0 b0 : Option Addr) (ca cb : Nat) (a b : List Pt) (z : Bool) (w : World) (ha : Pts w w.heap.size a0 a) (hb : Pts w w.heap.size b0 b) (hla : a.length ≤ 9223372036854775807) (hlb : b.length ≤ 9223372036854775807) (H : Hid (sameP a b = z)) : Calls Try.prog 22 #[.slice a0 a.length ca, .slice b0 b.length cb] w fun e w' => e = .returned (.bool z) ∧ Below w.heap.size w w' := by
  by_cases hl : a.length = b.length
  · have hli : ((a.length : Int) == (b.length : Int)) = true := by rw [beq_iff_eq]; omega
    have hln : ((a.length : Int) != (b.length : Int)) = false := by simp [bne, hli]
    have HL := Lib.hid hl
    clear hl
    go_enter Try.func22, Try.ntmps22
    go_wp2
    go_loopw [5] (fun i wr => ∃ (k : Nat), k ≤ a.length ∧ i = .int .i64 (k : Int) ∧ Below w.heap.size w wr ∧ Hid (∀ j (h1 : j < a.length) (h2 : j < b.length), j < k → a[j] = b[j])) (fun i _ => a.length - (intOf i).toNat)
    case atStart => exact ⟨0, by omega, rfl, Below.refl _ _, Lib.hid fun j _ _ hj => absurd hj (Nat.not_lt_zero _)⟩
    case round =>
      obtain ⟨k, hk, rfl, hB, hall⟩ := hrel
      by_cases hlt : k < a.length
      · have hlti : (k : Int) < (a.length : Int) := by omega
        have hlb2 : k < b.length := by have := HL.out; omega
        have hltb : (k : Int) < (b.length : Int) := by omega
        rcases ha.at_ with rfl | ⟨p, o, rfl, hpw, hc⟩
        · simp at hlt
        · rcases hb.at_ with rfl | ⟨p2, o2, rfl, hpw2, hc2⟩
          · simp at hlb2
          · obtain ⟨x, hx⟩ : ∃ x, a[k] = x := ⟨_, rfl⟩
            obtain ⟨y, hy⟩ : ∃ y, b[k] = y := ⟨_, rfl⟩
            have g1 := hc k hlt
            have g2 := hc2 k hlb2
            rw [hx] at g1
            rw [hy] at g2
            have qn := fun w => neq_run6 x y w
            unfold ptV at qn
            have HNO := Lib.hid (fun (h : x.same y = false) => show false = z by
              rw [← H.out]; unfold sameP; symm; apply decide_eq_false
              intro he; subst he
              rw [hx] at hy; rw [Pt.same_iff.2 hy] at h; cases h)
            have HGO := Lib.hid (fun (h : x.same y = true) => show ∀ j (h1 : j < a.length) (h2 : j < b.length), j < k + 1 → a[j] = b[j] from fun j h1 h2 hj => by
              by_cases e : j = k
              · subst e; rw [hx, hy]; exact Pt.same_iff.1 h
              · exact hall.out j h1 h2 (by omega))
            obtain ⟨c0, c1, c2, c3, c4, c5⟩ := g1.below hB hpw
            obtain ⟨d0, d1, d2, d3, d4, d5⟩ := g2.below hB hpw2
            clear g1 g2 hc hc2 hall hx hy
            cases hs : x.same y with
            | true =>
              rw [hs] at qn
              have HH := Lib.hid (HGO.out hs)
              clear HGO HNO hs
              go_wp2_with fail
              go_quiet (fail)
              go_wp2
              go_roundw
              case rel => exact ⟨k + 1, by omega, by go_num, by first | exact hB | exact hB.drew | exact below_drewN hB _, HH⟩
              case measure => simp [intOf]; omega
            | false =>
              rw [hs] at qn
              have HH := Lib.hid (HNO.out hs)
              clear HGO HNO hs
              go_wp2_with fail
              go_quiet (fail)
              go_wp2
              go_ret
              exact ⟨by rw [← HH.out]; rfl, by first | exact hB | exact hB.drew | exact below_drewN hB _⟩
      · have hlti : ¬ (k : Int) < (a.length : Int) := by omega
        have HH := Lib.hid (show true = z by
          rw [← H.out]; unfold sameP; symm; apply decide_eq_true
          exact List.ext_getElem HL.out fun j h1 h2 => hall.out j h1 h2 (by omega))
        go_wp2
        go_ret
        exact ⟨by rw [← HH.out]; rfl, hB⟩
  · have hli : ((a.length : Int) == (b.length : Int)) = false := by rw [beq_eq_false_iff_ne]; omega
    have hln : ((a.length : Int) != (b.length : Int)) = true := by simp [bne, hli]
    have HH := Lib.hid (show false = z by rw [← H.out]; unfold sameP; symm; apply decide_eq_false; intro he; exact hl (by rw [he]))
    clear hl
    go_enter Try.func22, Try.ntmps22
    go_wp2
    go_ret
    exact ⟨by rw [← HH.out]; rfl, Below.refl _ _⟩
end Go.Proofs.Ytcjcbbpolhpphaa
