/- Prefer. -/
import Derived.Test.YtmmkbedheeeecaaRingFrom
import Derived.Test.YtmmkbedheeeecaaRingNew
import Derived.WalkMore
import Derived.Deep.LoopGhost
set_option maxRecDepth 20000
set_option linter.unusedSimpArgs false
namespace Go.Proofs.Ytmmkbedheeeecaa
open Go.RowKit

def stepF (most : Int) (M : List Int) (p : Pt) : List Int := if inL M p.n = false ∧ (M.length : Int) < most then M ++ [p.n] else M
def foldF (most : Int) (M : List Int) (R : List Pt) : List Int := R.foldl (stepF most) M
/-- From a number on, once round. -/
def fromL (P : List Pt) (h : Int) : List Pt := P.filter (fun p => decide (h ≤ p.a)) ++ P.filter (fun p => decide (p.a < h))
def preferL (P : List Pt) (h most : Int) : List Int := foldF most [] (fromL P h)
theorem fromL_low {P : List Pt} {h : Int} {i : Nat} (H : IsLow P h i) : fromL P h = P.drop i ++ P.take i := by
  have e1 : ∀ p ∈ P.take i, p.a < h := fun p hp => by
    obtain ⟨j, hj, e⟩ := List.getElem_of_mem hp
    rw [List.getElem_take] at e
    have := H.lo j (by rw [List.length_take] at hj; omega) (by rw [List.length_take] at hj; omega)
    rw [e] at this; exact this
  have e2 : ∀ p ∈ P.drop i, h ≤ p.a := fun p hp => by
    obtain ⟨j, hj, e⟩ := List.getElem_of_mem hp
    rw [List.getElem_drop] at e
    have := H.hi (i + j) (by rw [List.length_drop] at hj; omega) (Nat.le_add_right _ _)
    rw [e] at this; exact this
  unfold fromL
  conv => lhs; rw [← List.take_append_drop i P]
  rw [List.filter_append, List.filter_append]
  rw [List.filter_eq_nil_iff.2 (fun p hp => by have := e1 p hp; simp; omega), List.filter_eq_self.2 (fun p hp => by have := e2 p hp; simp; omega), List.filter_eq_self.2 (fun p hp => by have := e1 p hp; simp; omega), List.filter_eq_nil_iff.2 (fun p hp => by have := e2 p hp; simp; omega)]
  simp
theorem fromL_len (P : List Pt) (h : Int) : (fromL P h).length = P.length := by
  unfold fromL
  induction P with
  | nil => rfl
  | cons p t ih =>
    simp only [List.length_append] at ih ⊢
    rw [List.filter_cons, List.filter_cons]
    by_cases c : h ≤ p.a
    · have c2 : ¬ p.a < h := by omega
      simp [c, c2]; omega
    · have c2 : p.a < h := by omega
      simp [c, c2]; omega
theorem fromL_at {P : List Pt} {h : Int} {i : Nat} (H : IsLow P h i) (k : Nat) (hk : k < P.length) : (fromL P h)[k]'(by rw [fromL_len]; exact hk) = P[(i + k) % P.length]'(Nat.mod_lt _ (by omega)) := by
  have hle := H.le
  have e := fromL_low H
  have e2 : (fromL P h)[k]'(by rw [fromL_len]; exact hk) = (P.drop i ++ P.take i)[k]'(by rw [List.length_append, List.length_drop, List.length_take]; omega) := by simp only [e]
  rw [e2, List.getElem_append]
  split
  · rename_i hd
    rw [List.length_drop] at hd
    rw [List.getElem_drop]
    congr 1
    rw [Nat.mod_eq_of_lt (by omega)]
  · rename_i hd
    rw [List.length_drop] at hd
    rw [List.getElem_take]
    congr 1
    rw [List.length_drop, Nat.mod_eq_sub_mod (by omega), Nat.mod_eq_of_lt (by omega)]
    omega
theorem foldF_next {most : Int} {M : List Int} {R : List Pt} {k : Nat} (h : k < R.length) : foldF most M (R.drop k) = foldF most (stepF most M R[k]) (R.drop (k + 1)) := by
  unfold foldF; rw [List.drop_eq_getElem_cons h]; rfl
theorem foldF_full {most : Int} {M : List Int} (h : most ≤ (M.length : Int)) (R : List Pt) : foldF most M R = M := by
  unfold foldF
  induction R with
  | nil => rfl
  | cons p t ih =>
    rw [List.foldl_cons, show stepF most M p = M by unfold stepF; rw [if_neg (by omega)]]; exact ih
theorem foldF_end {most : Int} {M : List Int} {R : List Pt} {k : Nat} (h : R.length ≤ k) : foldF most M (R.drop k) = M := by unfold foldF; rw [List.drop_eq_nil_of_le h]; rfl
theorem stepF_in {most : Int} {M : List Int} {p : Pt} (h : inL M p.n = true) : stepF most M p = M := by unfold stepF; rw [if_neg (by simp [h])]
theorem stepF_new {most : Int} {M : List Int} {p : Pt} (h : inL M p.n = false) (hl : (M.length : Int) < most) : stepF most M p = M ++ [p.n] := by unfold stepF; rw [if_pos ⟨h, hl⟩]
/-- The numbers met so far. -/
def MOk (M : List Int) (k : Nat) : Prop := M.length ≤ k ∧ ∀ n ∈ M, 0 ≤ n ∧ n ≤ 15
set_option maxHeartbeats 4000000 in
theorem prefer_is (b : Nat) (v1 v2 : Value) (ep : Int) (N : List Int) (P : List Pt) (key : ByteArray) (most : Int) (w : World) (h : RingAt w b v1 v2 ep N P) (hs : Rises P) (hk : key.size ≤ maxLen) :
    Calls Try.prog 21 #[.pointer (some ⟨b, 0, none⟩), .string key, .int .i64 most] w (IDone (preferL P (hashI key) most) w) := by
  have k1 := fun w => hash_is key w hk
  have k2 := from_is b v1 v2 ep N P (hashI key) w h hs
  obtain ⟨F, hF⟩ : ∃ F, preferL P (hashI key) most = F := ⟨_, rfl⟩
  have HF := Lib.hid (show foldF most [] (fromL P (hashI key)) = F from hF)
  rw [hF]
  generalize hashI key = x at *
  have H := Lib.hid h
  obtain ⟨a, cap, rfl⟩ := h.r2.slice
  obtain ⟨n, hn⟩ : ∃ n, P.length = n := ⟨_, rfl⟩
  rw [hn] at H
  have hn128 : n ≤ 128 := by rw [← hn]; exact h.pok.1
  have HN := Lib.hid hn
  have c := h.c2
  rw [hn] at c
  clear h hs hF hn hk
  go_enter Try.func21, Try.ntmps21
  go_wp2
  go_step3
  go_wp2_with (first
    | (go_at_call 10; (with_reducible refine (k1 _).mono ?_); rintro e w1 ⟨rfl, rfl⟩)
    | (go_at_call 34; (with_reducible refine k2.mono ?_); rintro e w1 ⟨i, rfl, hl, hB⟩; (have c1 := (H.out.later hB).c2); (have HL := Lib.hid hl); (have HB := Lib.hid hB); clear hl hB c))
  go_step3
  go_wp2
  have H1 := Lib.hid (H.out.later HB.out)
  clear k1 c1
  have hi128 : i ≤ 128 := by have := HL.out.le; rw [HN.out] at this; omega
  go_loopg [8, 24] n (fun g met j wr => ∃ k : Nat, k + g = n ∧ j = .int .i64 (k : Int) ∧ ∃ M, IRow wr w1.heap.size met M ∧ MOk M k ∧ Hid (foldF most M ((fromL P x).drop k) = F) ∧ Below w1.heap.size w1 wr)
  case atStart => exact ⟨0, by omega, rfl, [], IRow.nil _ _, ⟨Nat.le_refl _, fun n hn => by simp at hn⟩, HF, Below.refl _ _⟩
  case round =>
    obtain ⟨k, hk, rfl, M, hR, hM, hFM, hB⟩ := hrel
    obtain ⟨w2, hw2⟩ : ∃ w2, w2 = wr := ⟨_, rfl⟩
    subst hw2
    obtain ⟨a3, d3, rfl⟩ := hR.slice
    have HR := Lib.hid hR
    have HM := Lib.hid hM
    have HBB := Lib.hid hB
    have h2 := H1.out.later hB
    have c2 := h2.c2
    have hm128 : M.length ≤ 128 := by have := hM.1; omega
    obtain ⟨m, hmm⟩ : ∃ m, M.length = m := ⟨_, rfl⟩
    have HMM := Lib.hid hmm
    rw [hmm] at HR hm128 ⊢
    clear hR hM hmm
    cases gk with
    | zero =>
      have hlt2 : ¬ (k : Int) < (n : Int) := by omega
      have HE := Lib.hid (foldF_end (most := most) (M := M) (by rw [fromL_len, HN.out]; omega : (fromL P x).length ≤ k))
      clear hB h2 c2
      go_wp2
      try rw [Exit.noGoto_ret]
      go_ret
      exact ⟨_, rfl, by rw [← hFM.out, HE.out]; exact Joins.ownsRow_le HR.out HB.out.size, bel_next HB.out HBB.out⟩
    | succ g =>
      have hlt : k < n := by omega
      have hlt2 : (k : Int) < (n : Int) := by omega
      have hkR : k < (fromL P x).length := by rw [fromL_len, HN.out]; exact hlt
      by_cases hfull : most ≤ (m : Int)
      · have hd : decide (most ≤ (m : Int)) = true := decide_eq_true hfull
        have HE := Lib.hid (foldF_full (by rw [HMM.out]; exact hfull) ((fromL P x).drop k))
        clear hfull hB h2 c2
        go_wp2
        try rw [Exit.noGoto_ret]
        go_ret
        exact ⟨_, rfl, by rw [← hFM.out, HE.out]; exact Joins.ownsRow_le HR.out HB.out.size, bel_next HB.out HBB.out⟩
      · have hd : decide (most ≤ (m : Int)) = false := decide_eq_false hfull
        obtain ⟨b2, off, rfl, -, hb2, hc⟩ := h2.r2.pn.cell (by rw [HN.out]; omega)
        obtain ⟨q, hq⟩ : ∃ q : Nat, (i + k) % n = q := ⟨_, rfl⟩
        have hqn : q < n := by rw [← hq]; exact Nat.mod_lt _ (by omega)
        have hqn2 : (q : Int) < (n : Int) := by omega
        obtain ⟨p, hp⟩ : ∃ p, P[q]'(by rw [HN.out]; exact hqn) = p := ⟨_, rfl⟩
        obtain ⟨y0, y1⟩ := hc q (by rw [HN.out]; exact hqn)
        rw [hp] at y0 y1
        have hpn := (H1.out.pok.2 p (by rw [← hp]; exact List.getElem_mem _)).2
        have HPK := Lib.hid (show (fromL P x)[k] = p by
          rw [fromL_at HL.out k (by rw [HN.out]; exact hlt), ← hp]
          congr 1
          rw [HN.out]; exact hq)
        have wik : IntKind.i64.wrap ((i : Int) + (k : Int)) = (i : Int) + (k : Int) := by rw [IntKind.wrap_i64]; omega
        have hrem : Int.tmod ((i : Int) + (k : Int)) (n : Int) = (q : Int) := by
          rw [← hq, show ((i : Int) + (k : Int)) = ((i + k : Nat) : Int) by omega, Int.tmod_eq_emod_of_nonneg (by omega)]; omega
        have hn0 : (n : Int) ≠ 0 := by omega
        have HNX := Lib.hid (foldF_next (most := most) (M := M) hkR)
        rw [HPK.out] at HNX
        clear hc hB h2 hp hq
        go_wp2_with fail
        go_quiet (fail)
        go_wp2
        have HR3 := Lib.hid (show IRow (w2.drewN nq) w1.heap.size (.slice a3 m d3) M from HR.out.later (below_drewN (Below.refl _ _) nq))
        have HBB3 := Lib.hid (below_drewN HBB.out nq)
        clear c2 y0 y1 HBB HR
        generalize w2.drewN nq = w3 at *
        have hm0 : (m : Int) ≤ 128 := by omega
        go_loopg [49] m (fun g2 jj wy => ∃ j : Nat, j + g2 = m ∧ jj = .int .i64 (j : Int) ∧ wy = w3 ∧ Hid (∀ q (hq : q < M.length), q < j → M[q] ≠ p.n))
        case atStart => exact ⟨0, by omega, rfl, rfl, Lib.hid fun q _ hq => absurd hq (Nat.not_lt_zero _)⟩
        case round =>
          obtain ⟨j, hj, rfl, rfl, hall⟩ := hrel
          cases gk with
          | zero =>
            have hjm : ¬ (j : Int) < (m : Int) := by omega
            have hin := inL_no (l := M) (x := p.n) fun q hq => hall.out q hq (by rw [HMM.out] at hq; omega)
            have HST := Lib.hid (stepF_new hin (by rw [HMM.out]; exact hfull))
            have hB1 : w1.heap.size ≤ wr.heap.size := HBB3.out.size
            have hr3 := HR3.out
            go_wp2_with (at_builtin; refine wpList_irow rfl _ _ rfl w1.heap.size (.slice a3 m d3) M rfl p.n rfl hr3 hB1 (by rw [HMM.out]; omega) ?_)
            intro v4 w4 hr4 hb4 G4
            obtain ⟨a4, d4, e4⟩ := hr4.slice
            obtain ⟨m4, hm4⟩ : ∃ m4, (M ++ [p.n]).length = m4 := ⟨_, rfl⟩
            rw [hm4] at e4
            subst e4
            have HR4 := Lib.hid hr4
            have HB4 := Lib.hid (HBB3.out.trans hb4)
            clear hr4 hb4 G4 hr3
            go_wp2
            go_roundg g
            case measure => omega
            case rel => exact ⟨k + 1, by omega, by go_num, M ++ [p.n], HR4.out, ⟨by rw [List.length_append]; have := HM.out.1; simp; omega, fun n hn => by
              rcases List.mem_append.1 hn with h | h
              · exact HM.out.2 n h
              · rw [List.mem_singleton] at h; subst h; exact hpn⟩, Lib.hid (by rw [← hFM.out, HNX.out, HST.out]), HB4.out⟩
          | succ g2 =>
            have hjm : (j : Int) < (m : Int) := by omega
            have hjM : j < M.length := by rw [HMM.out]; omega
            obtain ⟨g3, rfl, -, hg3, hc⟩ := HR3.out.cell (by omega)
            have c1 := hc j hjM
            obtain ⟨y, hy⟩ : ∃ y, M[j] = y := ⟨_, rfl⟩
            rw [hy] at c1
            have HY := Lib.hid hy
            clear hc hy
            by_cases hyp : y = p.n
            · have hq : (y == p.n) = true := by simpa using hyp
              have HST := Lib.hid (stepF_in (most := most) (inL_yes hjM (HY.out.trans hyp)))
              clear hyp
              go_wp2
              go_roundg g
              case measure => omega
              case rel => exact ⟨k + 1, by omega, by go_num, M, HR3.out, ⟨by have := HM.out.1; omega, HM.out.2⟩, Lib.hid (by rw [← hFM.out, HNX.out, HST.out]), HBB3.out⟩
            · have hq : (y == p.n) = false := by simpa using hyp
              have HYP := Lib.hid hyp
              clear hyp
              go_wp2
              go_roundg g2
              case measure => omega
              case rel =>
                refine ⟨j + 1, by omega, by go_num, rfl, Lib.hid fun q hq h1 => ?_⟩
                by_cases e : q = j
                · subst e; rw [HY.out]; exact HYP.out
                · exact hall.out q hq (by omega)
end Go.Proofs.Ytmmkbedheeeecaa
