/- Contracts of the document's PointOf, and of the laws' own short and small. -/
import Derived.Test.YtjckphmkhikpaaaSampleRCheck
import Derived.Test.YtjckphmkhikpaaaSamplePt
import Derived.Test.YtjckphmkhikpaaaMarkArgs
set_option maxRecDepth 20000
namespace Go.Proofs.Ytjckphmkhikpaaa
open Go.RowKit Go.Proofs.Ytjckphmkhikpaaa.Vi Go.Proofs.Ytjckphmkhikpaaa.Mk

def Rec.pt (r : Rec) : Pt := if r.k = 1 ∧ r.ok = true then ⟨r.s, r.t, r.v, r.st⟩ else ⟨⟨#[]⟩, 0, 0, ⟨0, 0, 0⟩⟩
def Rec.isPt (r : Rec) : Bool := decide (r.k = 1) && r.ok
/-- The zero point's block stays as it was behind a call. -/
theorem zero_later {w1 w2 : World} {b : Nat} (k : Below w1.heap.size w1 w2) (hb : b < w1.heap.size) (j : Nat) (v : Value) (h : w1.cell? ⟨b, j, none⟩ = some v) (hz : w1.frozen? ⟨b, j, none⟩ = false) : w2.cell? ⟨b, j, none⟩ = some v ∧ w2.frozen? ⟨b, j, none⟩ = false :=
  ⟨(k.cell (p := ⟨b, j, none⟩) hb).trans h, (k.frozen (p := ⟨b, j, none⟩) hb).trans hz⟩

theorem six_set {w a : World} (h : Below w.heap.size w a) (b : Nat) (hb : w.heap.size ≤ b) (v0 v1 v2 v3 v4 v5 : Value) : Below w.heap.size w ((((((a.setCell ⟨b, 0, none⟩ v0).setCell ⟨b, 1, none⟩ v1).setCell ⟨b, 2, none⟩ v2).setCell ⟨b, 3, none⟩ v3).setCell ⟨b, 4, none⟩ v4).setCell ⟨b, 5, none⟩ v5) :=
  (((((h.setCell (p := ⟨b, 0, none⟩) hb _).setCell (p := ⟨b, 1, none⟩) hb _).setCell (p := ⟨b, 2, none⟩) hb _).setCell (p := ⟨b, 3, none⟩) hb _).setCell (p := ⟨b, 4, none⟩) hb _).setCell (p := ⟨b, 5, none⟩) hb _

set_option maxHeartbeats 2000000 in
theorem rpointof_is (r : Rec) (dv : Value) (p : Pt) (z : Bool) (w : World) (h : Ns w dv r.d) (hf : r.fits) (hp : Hid (r.pt = p)) (hz : Hid (r.isPt = z)) : Calls Try.prog 15 #[recV r dv] w fun e w' => e = .returned (.tuple #[ptV p, .bool z]) ∧ Below w.heap.size w w' := by
  have kc := fun w h => rcheck6_is r dv w h hf
  have H0 := (RHeld.new (r := r) h).keep ((Below.refl _ _).alloc (Nat.le_refl _) (.cells #[.string ⟨#[]⟩, .int .i64 0, .int .i64 0, .int .i64 0, .int .i64 0, .int .i64 0] 34))
  have hp := hp.out
  have hz := hz.out
  unfold Rec.pt at hp
  unfold Rec.isPt at hz
  unfold recV at kc ⊢
  obtain ⟨er, her⟩ : ∃ er, r.err = er := ⟨_, rfl⟩
  rw [her] at kc
  unfold Rec.err at her
  by_cases hk : r.k = 1
  · rw [decide_eq_true hk] at hz
    cases hok : r.ok with
    | true =>
      rw [hok] at hz her
      obtain rfl : (0 : Int) = er := her
      rw [if_pos ⟨hk, hok⟩] at hp
      obtain rfl : true = z := hz
      subst hp
      unfold ptV
      clear h hf hok
      obtain ⟨k, s, t, v, tier, st, d⟩ := r
      dsimp only at hk kc H0 ⊢
      subst hk
      go_enter Try.func15, Try.ntmps15
      go_wp2_with (first
        | (go_at_call 17; (with_reducible refine (kc _ H0.ns).mono ?_); rintro e w1 ⟨rfl, hb1⟩; have H1 := H0.keep hb1; have hat := H1.at_; obtain ⟨x0, x1, x2, x3, x4, x5, x6, x7, x8⟩ := hat; dsimp only at x0 x1 x2 x3 x4 x5 x6 x7 x8; have hzl := fun j v => zero_later hb1 (b := w.heap.size + 1) (by simp) j v; obtain ⟨u0, f0⟩ := hzl 0 (.string ⟨#[]⟩) (by simp [go_sem]) (by simp [go_sem]); obtain ⟨u1, f1⟩ := hzl 1 (.int .i64 0) (by simp [go_sem]) (by simp [go_sem]); obtain ⟨u2, f2⟩ := hzl 2 (.int .i64 0) (by simp [go_sem]) (by simp [go_sem]); obtain ⟨u3, f3⟩ := hzl 3 (.int .i64 0) (by simp [go_sem]) (by simp [go_sem]); obtain ⟨u4, f4⟩ := hzl 4 (.int .i64 0) (by simp [go_sem]) (by simp [go_sem]); obtain ⟨u5, f5⟩ := hzl 5 (.int .i64 0) (by simp [go_sem]) (by simp [go_sem]); clear hzl))
      refine bodyPost_ret (v := .tuple #[.agg #[.string s, .int .i64 t, .int .i64 v, .int .i64 st.c, .int .i64 st.s, .int .i64 st.q], .bool true]) (by simp [results, Try.results15, go_sem, u0, u1, u2, u3, u4, u5]; try rfl) rfl ⟨rfl, ?_⟩
      exact six_set H1.bel _ (by omega) _ _ _ _ _ _
    | false =>
      rw [hok] at hz her
      obtain rfl : (1 : Int) = er := her
      rw [if_neg (by rw [hok]; simp)] at hp
      obtain rfl : false = z := hz
      subst hp
      unfold ptV
      clear h hf hok
      obtain ⟨k, s, t, v, tier, st, d⟩ := r
      dsimp only at hk kc H0 ⊢
      subst hk
      go_enter Try.func15, Try.ntmps15
      go_wp2_with (first
        | (go_at_call 17; (with_reducible refine (kc _ H0.ns).mono ?_); rintro e w1 ⟨rfl, hb1⟩; have H1 := H0.keep hb1; have hat := H1.at_; obtain ⟨x0, x1, x2, x3, x4, x5, x6, x7, x8⟩ := hat; dsimp only at x0 x1 x2 x3 x4 x5 x6 x7 x8; have hzl := fun j v => zero_later hb1 (b := w.heap.size + 1) (by simp) j v; obtain ⟨u0, f0⟩ := hzl 0 (.string ⟨#[]⟩) (by simp [go_sem]) (by simp [go_sem]); obtain ⟨u1, f1⟩ := hzl 1 (.int .i64 0) (by simp [go_sem]) (by simp [go_sem]); obtain ⟨u2, f2⟩ := hzl 2 (.int .i64 0) (by simp [go_sem]) (by simp [go_sem]); obtain ⟨u3, f3⟩ := hzl 3 (.int .i64 0) (by simp [go_sem]) (by simp [go_sem]); obtain ⟨u4, f4⟩ := hzl 4 (.int .i64 0) (by simp [go_sem]) (by simp [go_sem]); obtain ⟨u5, f5⟩ := hzl 5 (.int .i64 0) (by simp [go_sem]) (by simp [go_sem]); clear hzl))
      refine bodyPost_ret (v := .tuple #[.agg #[.string ⟨#[]⟩, .int .i64 0, .int .i64 0, .int .i64 0, .int .i64 0, .int .i64 0], .bool false]) (by simp [results, Try.results15, go_sem, u0, u1, u2, u3, u4, u5]; try rfl) rfl ⟨rfl, ?_⟩
      exact six_set H1.bel _ (by omega) _ _ _ _ _ _
  · have kk : (r.k == 1) = false := by simpa using hk
    have kne : (r.k != 1) = true := by simp [bne, kk]
    rw [decide_eq_false hk] at hz
    rw [if_neg fun h => hk h.1] at hp
    obtain rfl : false = z := hz
    subst hp
    unfold ptV
    clear h hf hk her
    go_enter Try.func15, Try.ntmps15
    go_wp2
    refine bodyPost_ret (v := .tuple #[.agg #[.string ⟨#[]⟩, .int .i64 0, .int .i64 0, .int .i64 0, .int .i64 0, .int .i64 0], .bool false]) (by simp [results, Try.results15, go_sem]; try rfl) rfl ⟨rfl, ?_⟩
    exact H0.bel

theorem short_is (s t : ByteArray) (n : Nat) (m : Int) (w : World) (hm : m = (n : Int)) (hn : n ≤ 2000) (ht : Hid (cutB s n = t)) : Calls Try.prog 11 #[.string s, .int .i64 m] w fun e w' => e = .returned (.string t) ∧ w = w' := by
  by_cases h : n < s.size
  · have H := Lib.hid (show s.extract 0 n = t by rw [← ht.out]; exact (if_pos h).symm)
    subst hm
    go_enter Try.func11, Try.ntmps11
    go_wp2
    go_ret
    exact ⟨by rw [← H.out]; rfl, rfl⟩
  · have H := Lib.hid (show s = t by rw [← ht.out]; exact (if_neg h).symm)
    subst hm
    go_enter Try.func11, Try.ntmps11
    go_wp2
    go_ret
    exact ⟨by rw [← H.out]; rfl, rfl⟩

/-- The record that small makes of one. -/
def Rec.small (r : Rec) : Rec := { r with s := cutB r.s 60, d := r.d.take 12 }
/-- What small leaves. -/
def SmallDone (r : Rec) (w : World) (e : Ending) (w' : World) : Prop := ∃ dv', e = .returned (recV r.small dv') ∧ Ns w' dv' r.small.d ∧ Below w.heap.size w w'
set_option maxHeartbeats 2000000 in
theorem lsmall_is (r : Rec) (dv : Value) (w : World) (h : ArgNs w dv r.d) : Calls Try.prog 10 #[recV r dv] w (SmallDone r w) := by
  have h0 := h.ns
  have hsz := h0.size
  obtain ⟨y, hy⟩ : ∃ y, cutB r.s 60 = y := ⟨_, rfl⟩
  have ksh := fun w => short_is r.s y 60 60 w rfl (by omega) hy
  have HY := Lib.hid hy
  obtain ⟨a, cap, rfl⟩ := h0.slice
  obtain ⟨a', len', cap', he, hlc⟩ := h.cap.out
  injection he with e1 e2 e3
  subst e1 e2 e3
  unfold recV
  clear hy
  by_cases h12 : (12 : Int) < (r.d.length : Int)
  · have hN : Ns w (.slice a 12 cap) (r.d.take 12) := by
      obtain ⟨⟨a2, cap2, he, hc⟩, hw, hs, hr⟩ := h0
      injection he with e1 e2 e3
      subst e1 e3
      have hl : (r.d.take 12).length = 12 := by rw [List.length_take]; omega
      refine ⟨⟨a, cap, by rw [hl], ?_⟩, fun n hn => hw n (List.mem_of_mem_take hn), by omega, hr⟩
      rcases hc with h0 | ⟨b, off, h3, h4, h5⟩
      · rw [h0] at h12; simp at h12
      · refine Or.inr ⟨b, off, h3, h4, fun j hj => ?_⟩
        rw [List.getElem_take]; exact h5 j (by omega)
    have HN := Lib.hid hN
    have hcap : (12 : Int) ≤ (cap : Int) := by omega
    clear h h0 hN
    go_enter Try.func10, Try.ntmps10
    go_wp2_with (first | (go_at_call 11; (with_reducible refine (ksh _).mono ?_); rintro e w1 ⟨rfl, rfl⟩))
    refine bodyPost_ret (v := .agg #[.int .i64 r.k, .string y, .int .i64 r.t, .int .i64 r.v, .int .i64 r.tier, .int .i64 r.st.c, .int .i64 r.st.s, .int .i64 r.st.q, .slice a 12 cap]) (by simp [results, Try.results10, go_sem]; try rfl) rfl ⟨.slice a 12 cap, by unfold recV Rec.small; rw [← HY.out], ?_, ?_⟩
    · exact HN.out.later (bel_new ((Below.refl _ _).alloc (Nat.le_refl _) _) _)
    · exact bel_new ((Below.refl _ _).alloc (Nat.le_refl _) _) _
  · have e : r.d.take 12 = r.d := List.take_of_length_le (by omega)
    have H0 := Lib.hid h0
    have HT := Lib.hid e
    clear h h0 e
    go_enter Try.func10, Try.ntmps10
    go_wp2_with (first | (go_at_call 11; (with_reducible refine (ksh _).mono ?_); rintro e w1 ⟨rfl, rfl⟩))
    refine bodyPost_ret (v := .agg #[.int .i64 r.k, .string y, .int .i64 r.t, .int .i64 r.v, .int .i64 r.tier, .int .i64 r.st.c, .int .i64 r.st.s, .int .i64 r.st.q, .slice a r.d.length cap]) (by simp [results, Try.results10, go_sem]; try rfl) rfl ⟨.slice a r.d.length cap, by unfold recV Rec.small; rw [← HY.out], ?_, ?_⟩
    · show Ns _ _ (r.d.take 12)
      rw [HT.out]
      exact H0.out.later (bel_new ((Below.refl _ _).alloc (Nat.le_refl _) _) _)
    · exact bel_new ((Below.refl _ _).alloc (Nat.le_refl _) _) _
end Go.Proofs.Ytjckphmkhikpaaa
