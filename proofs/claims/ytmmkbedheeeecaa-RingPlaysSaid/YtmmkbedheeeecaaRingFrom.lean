/- The place of the first point that is not below a number. -/
import Derived.Test.YtmmkbedheeeecaaRingObj
import Derived.Deep.CutRange
set_option maxRecDepth 20000
set_option linter.unusedSimpArgs false
namespace Go.Proofs.Ytmmkbedheeeecaa
open Go.RowKit

theorem from1_is (p : Pt) (x : Int) (w : World) : Calls Try.prog 43 #[.agg #[.int .u64 p.a, .int .i64 p.n], .int .u64 x] w fun e w' => e = .returned (.int .i64 (cmpI p.a x)) ∧ Below w.heap.size w w' := by
  have k1 := fun w => compareU p.a x w
  generalize cmpI p.a x = z at *
  have hB := (Below.refl w.heap.size w).alloc (Nat.le_refl _) (.cells #[.int .u64 p.a, .int .i64 p.n] 61)
  go_enter Try.func43, Try.ntmps43
  go_wp2_with (go_at_call 31; (with_reducible refine (k1 _).mono ?_); rintro e w1 ⟨rfl, rfl⟩)
  go_ret
  exact ⟨rfl, hB⟩
def Rises (P : List Pt) : Prop := ∀ i j (hi : i < P.length) (hj : j < P.length), i < j → P[i].a ≤ P[j].a
/-- The first i points are below x, the others are not. -/
structure IsLow (P : List Pt) (x : Int) (i : Nat) : Prop where
  le : i ≤ P.length
  lo : ∀ j (hj : j < P.length), j < i → P[j].a < x
  hi : ∀ j (hj : j < P.length), i ≤ j → x ≤ P[j].a
theorem IsLow.of {P : List Pt} {x : Int} {i : Nat} (hs : Rises P) (hle : i ≤ P.length) (h1 : ∀ j (hj : j < P.length), j + 1 = i → P[j].a < x) (h2 : ∀ hj : i < P.length, x ≤ P[i].a) : IsLow P x i := by
  refine ⟨hle, fun j hj hji => ?_, fun j hj hij => ?_⟩
  · by_cases e : j + 1 = i
    · exact h1 j hj e
    · have := hs j (i - 1) hj (by omega) (by omega)
      have := h1 (i - 1) (by omega) (by omega)
      omega
  · by_cases e : j = i
    · subst e; exact h2 hj
    · have := hs i j (by omega) hj (by omega)
      have := h2 (by omega)
      omega
theorem lo_at {P : List Pt} {x : Int} {m : Nat} {p : Pt} (hm : m < P.length) (e : P[m] = p) (h : p.a < x) : ∀ q (hq : q < P.length), q + 1 = m + 1 → P[q].a < x := fun q hq h1 => by
  have h2 : q = m := by omega
  subst h2; rw [e]; exact h
def LowDone (P : List Pt) (x : Int) (w : World) (e : Ending) (w' : World) : Prop := ∃ (i : Nat) (f : Bool), e = .returned (.tuple #[.int .i64 (i : Int), .bool f]) ∧ IsLow P x i ∧ Below w.heap.size w w'
set_option maxHeartbeats 2000000 in
theorem search_is (v : Value) (P : List Pt) (x : Int) (w : World) (hP : Pn w v P) (hlen : P.length ≤ 128) (hs : Rises P) :
    Calls Try.prog 42 #[v, .int .u64 x, .func (.func 43) #[] #[]] w (LowDone P x w) := by
  obtain ⟨a, cap, rfl⟩ := hP.slice
  obtain ⟨n, hn⟩ : ∃ n, P.length = n := ⟨_, rfl⟩
  have HS := Lib.hid hs
  have HP := Lib.hid hP
  rw [hn] at HP hlen ⊢
  have HN := Lib.hid hn
  clear hs hn hP
  have kf := fun p w => from1_is p x w
  go_enter Try.func42, Try.ntmps42
  go_wp2
  go_loopw [9, 10] (fun si sj wr => ∃ i j : Nat, i ≤ j ∧ j ≤ n ∧ si = .int .i64 (i : Int) ∧ sj = .int .i64 (j : Int) ∧ (∀ q (hq : q < P.length), q + 1 = i → P[q].a < x) ∧ (∀ hj : j < P.length, x ≤ P[j].a) ∧ Below w.heap.size w wr) (fun si sj _ => (intOf sj).toNat - (intOf si).toNat)
  case atStart => exact ⟨0, n, Nat.zero_le _, Nat.le_refl _, rfl, rfl, fun q _ h => by omega, fun h => absurd h (by rw [HN.out]; omega), Below.refl _ _⟩
  case round =>
    obtain ⟨i, j, hij, hjn, rfl, rfl, hlo, hhi, hB⟩ := hrel
    obtain ⟨w2, hw2⟩ : ∃ w2, w2 = wr := ⟨_, rfl⟩
    subst hw2
    have HLO := Lib.hid hlo
    have HHI := Lib.hid hhi
    have HB := Lib.hid hB
    clear hlo hhi
    by_cases hlt : i < j
    · have hlt2 : (i : Int) < (j : Int) := by omega
      obtain ⟨m, hm⟩ : ∃ m : Nat, (i + j) / 2 = m := ⟨_, rfl⟩
      have w1 : IntKind.i64.wrap ((i : Int) + (j : Int)) = (i : Int) + (j : Int) := by rw [IntKind.wrap_i64]; omega
      have w2' : IntKind.u64.wrap ((i : Int) + (j : Int)) = (i : Int) + (j : Int) := by rw [IntKind.wrap_u64]; omega
      have w3 : ((i : Int) + (j : Int)) / 2 = (m : Int) := by omega
      have w4 : IntKind.i64.wrap (m : Int) = (m : Int) := by rw [IntKind.wrap_i64]; omega
      have w5 : IntKind.i64.wrap ((m : Int) + 1) = (m : Int) + 1 := by rw [IntKind.wrap_i64]; omega
      have hmj : m < j := by omega
      have him : i ≤ m := by omega
      have hmn : m < n := by omega
      have hmn2 : (m : Int) < (n : Int) := by omega
      have hmP : m < P.length := by rw [HN.out]; exact hmn
      obtain ⟨b, off, rfl, -, hb, hc⟩ := (HP.out.later hB).cell (by omega)
      obtain ⟨c0, c1⟩ := hc m hmP
      obtain ⟨p, hp⟩ : ∃ p, P[m] = p := ⟨_, rfl⟩
      rw [hp] at c0 c1
      have HPM := Lib.hid hp
      have HM := Lib.hid hm
      have kp := fun w => kf p w
      have hcm : Hid (cmpI p.a x < 0 ↔ p.a < x) := by
        show _ ↔ _
        unfold cmpI
        split
        · simp [*]
        · split <;> simp [*]
      generalize cmpI p.a x = z at *
      clear hB hc hp hm kf
      by_cases hz : z < 0
      · have hlo2 := hcm.out.1 hz
        have hzd : decide (z < 0) = true := decide_eq_true hz
        clear hcm
        go_wp2_with (go_at_call 43; (with_reducible refine (kp _).mono ?_); rintro e w6 ⟨rfl, hb6⟩; (have HB6 := Lib.hid (bel_next HB.out hb6)); clear hb6)
        go_roundw
        case rel => exact ⟨m + 1, j, by omega, hjn, by go_num, rfl, lo_at hmP HPM.out hlo2, HHI.out, HB6.out⟩
        case measure => simp [intOf]; omega
      · have hhi2 : x ≤ p.a := by have := mt hcm.out.2 hz; omega
        have hzd : decide (z < 0) = false := decide_eq_false hz
        clear hcm
        go_wp2_with (go_at_call 43; (with_reducible refine (kp _).mono ?_); rintro e w6 ⟨rfl, hb6⟩; (have HB6 := Lib.hid (bel_next HB.out hb6)); clear hb6)
        go_roundw
        case rel => exact ⟨i, m, him, by omega, rfl, rfl, HLO.out, fun hj => by rw [HPM.out]; exact hhi2, HB6.out⟩
        case measure => simp [intOf]; omega
    · obtain rfl : i = j := by omega
      have hlt2 : ¬ (i : Int) < (i : Int) := by omega
      clear hlt hij
      have HI := Lib.hid (IsLow.of HS.out (by rw [HN.out]; exact hjn) HLO.out HHI.out)
      by_cases hin : i < n
      · have hin2 : (i : Int) < (n : Int) := by omega
        obtain ⟨b, off, rfl, -, hb, hc⟩ := (HP.out.later hB).cell (by rw [HN.out]; omega)
        obtain ⟨c0, c1⟩ := hc i (by rw [HN.out]; exact hin)
        obtain ⟨p, hp⟩ : ∃ p, P[i]'(by rw [HN.out]; exact hin) = p := ⟨_, rfl⟩
        rw [hp] at c0 c1
        have kp := fun w => kf p w
        generalize cmpI p.a x = z at *
        clear hB hc hp kf
        go_wp2_with (go_at_call 43; (with_reducible refine (kp _).mono ?_); rintro e w6 ⟨rfl, hb6⟩; (have HB6 := Lib.hid (bel_next HB.out hb6)); clear hb6)
        go_ret2
        exact ⟨i, _, rfl, HI.out, HB6.out⟩
      · have hin2 : ¬ (i : Int) < (n : Int) := by omega
        clear hB kf
        go_wp2
        go_ret2
        exact ⟨i, _, rfl, HI.out, HB.out⟩
theorem from_is (b : Nat) (v1 v2 : Value) (ep : Int) (N : List Int) (P : List Pt) (x : Int) (w : World) (h : RingAt w b v1 v2 ep N P) (hs : Rises P) : Calls Try.prog 34 #[.pointer (some ⟨b, 0, none⟩), .int .u64 x] w fun e w' => ∃ i : Nat, e = .returned (.int .i64 (i : Int)) ∧ IsLow P x i ∧ Below w.heap.size w w' := by
  have c := h.c2
  have k := search_is v2 P x w h.r2.pn h.pok.1 hs
  obtain ⟨a, cap, rfl⟩ := h.r2.slice
  clear h hs
  generalize P.length = n at c k
  go_enter Try.func34, Try.ntmps34
  go_wp2_with (go_at_call 42; (with_reducible refine k.mono ?_); rintro e w1 ⟨i, f, rfl, hl, hB⟩; (have HL := Lib.hid hl); (have HB := Lib.hid hB); clear hl hB)
  go_ret
  exact ⟨i, rfl, HL.out, HB.out⟩
end Go.Proofs.Ytmmkbedheeeecaa
