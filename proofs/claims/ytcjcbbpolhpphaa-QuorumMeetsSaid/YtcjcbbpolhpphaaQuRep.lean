/- Repair. -/
import Derived.Test.YtcjcbbpolhpphaaQuDel
import Derived.Test.YtcjcbbpolhpphaaSampleG
set_option maxRecDepth 20000
set_option linter.unusedSimpArgs false
set_option linter.unusedVariables false
namespace Go.Proofs.Ytcjcbbpolhpphaa.Qu
open Go.RowKit Go.Maps Go.Proofs.Ytcjcbbpolhpphaa.Vi

def inA (A : List Pt) (x : Pt) : Bool := decide (x ∈ A)
theorem find_in {A : List Pt} (h : srtB A = true) (x : Pt) : ((findL A x.s x.t).2 && (findL A x.s x.t).1.same x) = inA A x := by
  have e : look A (plc x.s x.t) = look A x := by unfold look; congr 1
  unfold findL
  rw [e]
  by_cases hx : x ∈ A
  · rw [look_self h hx]
    unfold inA
    rw [decide_eq_true hx]
    show (true && x.same x) = true
    rw [Pt.same_iff.2 rfl]; rfl
  · unfold inA
    rw [decide_eq_false hx]
    cases hl : look A x with
    | none => rfl
    | some y =>
      show (true && y.same x) = false
      have hy := (look_mem hl).1
      cases hs : y.same x with
      | false => rfl
      | true => exact absurd (Pt.same_iff.1 hs ▸ hy) hx
def rprL (R : RS) (n : Int) : List Pt := if hasB R.S n = true then keepL (mrgL R) (inA (R.an n)) else []
set_option maxHeartbeats 2000000 in
theorem rep1_is (x : Pt) (T : Nat) (a : Option Addr) (c : Nat) (A : List Pt) (W : World) (hT : W.cell? ⟨T, 0, none⟩ = some (.slice a A.length c)) (hL : Lst W W.heap.size a c A) (hs : srtB A = true) (hl : A.length ≤ 1000) (hn : ∀ p ∈ A, p.s.size ≤ 1000) :
    Calls Try.prog 46 #[ptV x, .pointer (some ⟨T, 0, none⟩)] W fun e w' => e = .returned (.bool (inA A x)) ∧ Below W.heap.size W w' := by
  have hb := World.block_lt_of_cell? W _ hT
  have hne : ¬ T = W.heap.size := by simp at hb; omega
  have hne2 : ¬ W.heap.size = T := by omega
  have HB := Lib.hid ((Below.refl W.heap.size W).alloc (Nat.le_refl _) (.cells #[.string x.s, .int .i64 x.t, .int .i64 x.v, .int .i64 x.st.c, .int .i64 x.st.s, .int .i64 x.st.q] 55))
  have kf := fun w h => find_is a c A x.s x.t w h (by omega) hs (fun p hp => Nat.le_trans (hn p hp) (by decide))
  have HL := Lib.hid (hL.later HB.out)
  have HE := Lib.hid (find_in hs x)
  have heq := fun y W => eql_run6 y x W
  obtain ⟨y, z, hyz⟩ : ∃ y z, findL A x.s x.t = (y, z) := ⟨_, _, rfl⟩
  rw [hyz] at kf HE
  dsimp only at kf HE
  have hey := heq y
  obtain ⟨d, hd⟩ : ∃ d, y.same x = d := ⟨_, rfl⟩
  rw [hd] at hey HE
  have hpx := (PtAt.new W x)
  have HPX := Lib.hid hpx
  obtain ⟨n, hnn⟩ : ∃ n, A.length = n := ⟨_, rfl⟩
  rw [hnn] at hT kf
  unfold ptV at kf hey ⊢
  clear hL hs hn hyz hd heq hl hnn hpx
  cases z with
  | false =>
    go_enter Try.func46, Try.ntmps46
    go_wp2_with (go_at_call 47; (with_reducible refine (kf _ HL.out).mono ?_); rintro e w1 ⟨rfl, hb1⟩; (have HB1 := Lib.hid (bel_next HB.out hb1)); clear hb1)
    go_ret
    exact ⟨by rw [← HE.out]; rfl, bel_new HB1.out _⟩
  | true =>
    go_enter Try.func46, Try.ntmps46
    go_wp2_with (go_at_call 47; (with_reducible refine (kf _ HL.out).mono ?_); rintro e w1 ⟨rfl, hb1⟩; (have HB1 := Lib.hid (bel_next HB.out hb1)); (have hp1 := (HPX.out.later hb1).later ((Below.refl w1.heap.size w1).alloc (Nat.le_refl _) (.cells #[.string y.s, .int .i64 y.t, .int .i64 y.v, .int .i64 y.st.c, .int .i64 y.st.s, .int .i64 y.st.q] 55))); (obtain ⟨x0, x1, x2, x3, x4, x5⟩ := hp1); clear hb1)
    go_ret
    exact ⟨by rw [← HE.out]; rfl, bel_new HB1.out _⟩
theorem ans_of {w w1 w2 : World} {a : Option Addr} {c q : Nat} {A : List Pt} (M : List Pt) (hal : Below w.heap.size w w1) (hT : w1.cell? ⟨w.heap.size, 0, none⟩ = some (.slice a q c)) (hA : Lst w w.heap.size a c A) (hq : A.length = q) (hs : srtB A = true) (hl : A.length ≤ 1000) (hn : ∀ p ∈ A, p.s.size ≤ 1000) (hb2 : Below w1.heap.size w1 w2) :
    Ans w1.heap.size w2 (.pointer (some ⟨w.heap.size, 0, none⟩)) M (inA A) := fun W hW x hx => by
  have hlt := World.block_lt_of_cell? w1 _ hT
  have hTW := (hW.cell (p := ⟨w.heap.size, 0, none⟩) hlt).trans ((hb2.cell (p := ⟨w.heap.size, 0, none⟩) hlt).trans hT)
  rw [← hq] at hTW
  have hbW : Below w.heap.size w W := hal.trans ((hb2.trans hW).mono hal.size)
  exact rep1_is x w.heap.size a c A W hTW (hA.later hbW) hs hl hn
set_option maxHeartbeats 2000000 in
theorem repair_is {w : World} {B0 B b : Nat} {R : RS} (n : Int) (h : RdG w B0 B b R) (hB : B ≤ w.heap.size) : Calls Try.prog 25 #[.pointer (some ⟨b, 0, none⟩), .int .i64 n] w (DelDone w.heap.size (rprL R n) w) := by
  have kh := has_is n h.at_
  obtain ⟨z, hz⟩ : ∃ z, hasB R.S n = z := ⟨_, rfl⟩
  rw [hz] at kh
  cases z with
  | false =>
    have HE := Lib.hid (show rprL R n = [] by unfold rprL; rw [hz]; rfl)
    clear hz h
    go_enter Try.func25, Try.ntmps25
    go_wp2_with (go_at_call 44; (with_reducible refine kh.mono ?_); rintro e w1 ⟨rfl, rfl⟩)
    go_ret
    exact ⟨none, 0, by rw [HE.out]; rfl, by rw [HE.out]; exact ⟨⟨Or.inl rfl⟩, Nat.le_refl _, fun _ => rfl⟩, Below.refl _ _⟩
  | true =>
    obtain ⟨k, hk, rfl⟩ := has_node hz
    have HE := Lib.hid (show rprL R (k : Int) = keepL (mrgL R) (inA (R.an (k : Int))) by unfold rprL; rw [hz]; rfl)
    obtain ⟨mv, a, c, c33, hrun, hP⟩ := h.look k hk
    have hal := (Below.refl w.heap.size w).alloc (Nat.le_refl _) (.cells #[.slice a (R.an (k : Int)).length c] 35)
    have km := merged_is (h.later hal) (Nat.le_trans hB hal.size)
    have hT : (w.alloc (.cells #[.slice a (R.an (k : Int)).length c] 35)).cell? ⟨w.heap.size, 0, none⟩ = some (.slice a (R.an (k : Int)).length c) := by simp [go_sem]
    have HA := Lib.hid hP.lst
    have HS := Lib.hid (h.srt (k : Int))
    have HL := Lib.hid (h.len (k : Int))
    have HN := Lib.hid (h.nam (k : Int))
    have hml : (mrgL R).length ≤ 900000 := by
      have h1 := srtR_len (ansL R).flatten
      have : ∀ L : List Int, ((L.map R.an).flatten).length ≤ L.length * 1000 := fun L => by
        induction L with
        | nil => simp
        | cons x t ih =>
          rw [List.map_cons, List.flatten_cons, List.length_append, List.length_cons]
          have := h.len x
          omega
      have h2 := this (repL R.S)
      have h3 : (repL R.S).length ≤ 16 := by unfold repL pickL; exact pickK_len _ 16
      unfold mrgL ansL at *
      omega
    generalize R.an (k : Int) = A at *
    obtain ⟨q, hq⟩ : ∃ q, A.length = q := ⟨_, rfl⟩
    have HQ := Lib.hid hq
    rw [hq] at hrun hal km hT
    obtain ⟨M, hM⟩ : ∃ M, mrgL R = M := ⟨_, rfl⟩
    rw [hM] at km hml HE
    have HAL := Lib.hid hal
    have HT := Lib.hid hT
    have kd := fun a0 c0 (n : Nat) (B : Nat) (cv : Value) W hn hR hA hBw => deleteD_is B a0 c0 n M cv (inA A) W hn hR (by omega) hA hBw
    clear h hz hP hM hq hal hT
    go_enter Try.func25, Try.ntmps25
    go_wp2_with (first
      | (go_at_call 44; (with_reducible refine kh.mono ?_); rintro e w1 ⟨rfl, rfl⟩)
      | (go_at_call 23; (with_reducible refine km.mono ?_); rintro e w2 ⟨v, rfl, hR, hb2⟩; (obtain ⟨a2, c2, rfl⟩ := hR.slice); (have HR := Lib.hid hR); (have HB2 := Lib.hid hb2); (have HANS := Lib.hid (ans_of M HAL.out HT.out HA.out HQ.out HS.out HL.out HN.out hb2)); clear hR hb2)
      | (go_at_call 45; (with_reducible refine (kd _ _ _ _ _ _ rfl HR.out HANS.out HB2.out.size).mono ?_); rintro e w3 ⟨a3, c3, rfl, hL3, hb3⟩))
    go_ret
    exact ⟨_, _, by rw [HE.out]; rfl, by rw [HE.out]; exact hL3, HAL.out.trans ((HB2.out.trans hb3).mono (by simp))⟩
theorem repair_nil (n : Int) (w : World) : Calls Try.prog 25 #[.pointer none, .int .i64 n] w fun e w' => e = .returned (.slice none 0 0) ∧ w = w' := by
  go_enter Try.func25, Try.ntmps25
  go_wp2
  go_ret
  exact ⟨rfl, rfl⟩
end Go.Proofs.Ytcjcbbpolhpphaa.Qu
