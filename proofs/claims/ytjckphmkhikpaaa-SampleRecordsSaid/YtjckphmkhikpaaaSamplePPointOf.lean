/- The contract of the program's PointOf. -/
import Derived.Test.YtjckphmkhikpaaaSamplePCheck
import Derived.Test.YtjckphmkhikpaaaSampleRBytes
import Derived.Test.YtjckphmkhikpaaaSampleSmall
import Derived.Test.YtjckphmkhikpaaaVintSmall
set_option maxRecDepth 20000
namespace Go.Proofs.Ytjckphmkhikpaaa
open Go.RowKit Go.Proofs.Ytjckphmkhikpaaa.Vi Go.Proofs.Ytjckphmkhikpaaa.Mk

set_option maxHeartbeats 4000000 in
theorem pointof_yes (r : Rec) (dv : Value) (w : World) (h : Ns w dv r.d) (hf : r.fits) (hk : r.k = 1) (hok : r.ok = true) : Calls Try.prog 14 #[recV r dv] w fun e w' => e = .returned (.tuple #[ptV r.stored, .bool true]) ∧ Below w.heap.size w w' := by
  have kc := fun w h => check6_is r dv w h hf
  rw [Rec.err_yes hok] at kc
  have hn40 : nameB r.s = true := by rcases Rec.ok_kind hok with h | h; exact h.2.1; omega
  have hn40 := (name_len hn40).2
  have ks := fun w => stored_is r dv w
  have kcl := fun w => clone_is r.s w (by omega)
  have H0 := (RHeld.new (r := r) h).keep ((Below.refl _ _).alloc (Nat.le_refl _) (.cells #[.string ⟨#[]⟩, .int .i64 0, .int .i64 0, .int .i64 0, .int .i64 0, .int .i64 0] 34))
  unfold Rec.stored at ks ⊢
  unfold ptV at ks ⊢
  unfold recV at kc ks ⊢
  clear h hf hok hn40
  obtain ⟨k, s, t, v, tier, st, d⟩ := r
  dsimp only at hk kc ks kcl H0 ⊢
  subst hk
  go_enter Try.func14, Try.ntmps14
  go_wp2_with (first
    | (go_at_call 16; (with_reducible refine (kc _ H0.ns).mono ?_); rintro e w1 ⟨rfl, hb1⟩; have H1 := H0.keep hb1; have hat := H1.at_; obtain ⟨x0, x1, x2, x3, x4, x5, x6, x7, x8⟩ := hat; dsimp only at x0 x1 x2 x3 x4 x5 x6 x7 x8; have hzl := fun j v => zero_later hb1 (b := w.heap.size + 1) (by simp) j v; have Z0 := hzl 0 (.string ⟨#[]⟩) (by simp [go_sem]) (by simp [go_sem]); have Z1 := hzl 1 (.int .i64 0) (by simp [go_sem]) (by simp [go_sem]); have Z2 := hzl 2 (.int .i64 0) (by simp [go_sem]) (by simp [go_sem]); have Z3 := hzl 3 (.int .i64 0) (by simp [go_sem]) (by simp [go_sem]); have Z4 := hzl 4 (.int .i64 0) (by simp [go_sem]) (by simp [go_sem]); have Z5 := hzl 5 (.int .i64 0) (by simp [go_sem]) (by simp [go_sem]); clear hzl; have hr1 : w.heap.size + 1 < w1.heap.size := World.block_lt_of_cell? w1 _ Z0.1)
    | (go_at_call 39; (with_reducible refine (ks _).mono ?_); rintro e w2 ⟨rfl, hb2⟩; have H2 := H1.keep hb2; have hr2 : w.heap.size + 1 < w2.heap.size := Nat.lt_of_lt_of_le hr1 hb2.size; have Z0 := zero_later hb2 (b := w.heap.size + 1) hr1 0 _ Z0.1 Z0.2; have Z1 := zero_later hb2 (b := w.heap.size + 1) hr1 1 _ Z1.1 Z1.2; have Z2 := zero_later hb2 (b := w.heap.size + 1) hr1 2 _ Z2.1 Z2.2; have Z3 := zero_later hb2 (b := w.heap.size + 1) hr1 3 _ Z3.1 Z3.2; have Z4 := zero_later hb2 (b := w.heap.size + 1) hr1 4 _ Z4.1 Z4.2; have Z5 := zero_later hb2 (b := w.heap.size + 1) hr1 5 _ Z5.1 Z5.2)
    | (go_at_call 45; (with_reducible refine (kcl _).mono ?_); rintro e w3 ⟨rfl, hb3⟩; have hb23 := ((Below.refl w2.heap.size w2).alloc (Nat.le_refl _) (.cells #[.string s, .int .i64 t, .int .i64 v, .int .i64 st.c, .int .i64 st.s, .int .i64 st.q] 34)).trans (hb3.mono (by simp)); have H3 := H2.keep hb23; obtain ⟨u0, f0⟩ := zero_later hb23 (b := w.heap.size + 1) hr2 0 _ Z0.1 Z0.2; obtain ⟨u1, f1⟩ := zero_later hb23 (b := w.heap.size + 1) hr2 1 _ Z1.1 Z1.2; obtain ⟨u2, f2⟩ := zero_later hb23 (b := w.heap.size + 1) hr2 2 _ Z2.1 Z2.2; obtain ⟨u3, f3⟩ := zero_later hb23 (b := w.heap.size + 1) hr2 3 _ Z3.1 Z3.2; obtain ⟨u4, f4⟩ := zero_later hb23 (b := w.heap.size + 1) hr2 4 _ Z4.1 Z4.2; obtain ⟨u5, f5⟩ := zero_later hb23 (b := w.heap.size + 1) hr2 5 _ Z5.1 Z5.2; obtain ⟨p0, g0⟩ := zero_later hb3 (b := w2.heap.size) (by simp) 0 (.string s) (by simp [go_sem]) (by simp [go_sem]); obtain ⟨p1, g1⟩ := zero_later hb3 (b := w2.heap.size) (by simp) 1 (.int .i64 t) (by simp [go_sem]) (by simp [go_sem]); obtain ⟨p2, g2⟩ := zero_later hb3 (b := w2.heap.size) (by simp) 2 (.int .i64 v) (by simp [go_sem]) (by simp [go_sem]); obtain ⟨p3, g3⟩ := zero_later hb3 (b := w2.heap.size) (by simp) 3 (.int .i64 st.c) (by simp [go_sem]) (by simp [go_sem]); obtain ⟨p4, g4⟩ := zero_later hb3 (b := w2.heap.size) (by simp) 4 (.int .i64 st.s) (by simp [go_sem]) (by simp [go_sem]); obtain ⟨p5, g5⟩ := zero_later hb3 (b := w2.heap.size) (by simp) 5 (.int .i64 st.q) (by simp [go_sem]) (by simp [go_sem])))
  refine bodyPost_ret (v := .tuple #[.agg #[.string s, .int .i64 t, .int .i64 v, .int .i64 st.c, .int .i64 st.s, .int .i64 st.q], .bool true]) (by simp [results, Try.results14, go_sem, u0, u1, u2, u3, u4, u5]; try rfl) rfl ⟨rfl, ?_⟩
  exact six_set (H3.bel.setCell (p := ⟨w2.heap.size, 0, none⟩) (by show w.heap.size ≤ w2.heap.size; omega) _) _ (by omega) _ _ _ _ _ _

set_option maxHeartbeats 4000000 in
theorem pointof_is (r : Rec) (dv : Value) (p : Pt) (z : Bool) (w : World) (h : Ns w dv r.d) (hf : r.fits) (hp : Hid (r.pt = p)) (hz : Hid (r.isPt = z)) : Calls Try.prog 14 #[recV r dv] w fun e w' => e = .returned (.tuple #[ptV p, .bool z]) ∧ Below w.heap.size w w' := by
  have hp := hp.out
  have hz := hz.out
  unfold Rec.pt at hp
  unfold Rec.isPt at hz
  by_cases hk : r.k = 1
  · rw [decide_eq_true hk] at hz
    cases hok : r.ok with
    | true =>
      rw [if_pos ⟨hk, hok⟩] at hp
      rw [hok] at hz
      obtain rfl : true = z := hz
      rw [← hp]
      exact pointof_yes r dv w h hf hk hok
    | false =>
      have kc := fun w h => check6_is r dv w h hf
      rw [Rec.err_no hok] at kc
      rw [hok] at hz
      rw [if_neg (by rw [hok]; simp)] at hp
      obtain rfl : false = z := hz
      subst hp
      have H0 := (RHeld.new (r := r) h).keep ((Below.refl _ _).alloc (Nat.le_refl _) (.cells #[.string ⟨#[]⟩, .int .i64 0, .int .i64 0, .int .i64 0, .int .i64 0, .int .i64 0] 34))
      unfold ptV
      unfold recV at kc ⊢
      clear h hf hok
      obtain ⟨k, s, t, v, tier, st, d⟩ := r
      dsimp only at hk kc H0 ⊢
      subst hk
      go_enter Try.func14, Try.ntmps14
      go_wp2_with (first
        | (go_at_call 16; (with_reducible refine (kc _ H0.ns).mono ?_); rintro e w1 ⟨rfl, hb1⟩; have H1 := H0.keep hb1; have hat := H1.at_; obtain ⟨x0, x1, x2, x3, x4, x5, x6, x7, x8⟩ := hat; dsimp only at x0 x1 x2 x3 x4 x5 x6 x7 x8; have hzl := fun j v => zero_later hb1 (b := w.heap.size + 1) (by simp) j v; obtain ⟨u0, f0⟩ := hzl 0 (.string ⟨#[]⟩) (by simp [go_sem]) (by simp [go_sem]); obtain ⟨u1, f1⟩ := hzl 1 (.int .i64 0) (by simp [go_sem]) (by simp [go_sem]); obtain ⟨u2, f2⟩ := hzl 2 (.int .i64 0) (by simp [go_sem]) (by simp [go_sem]); obtain ⟨u3, f3⟩ := hzl 3 (.int .i64 0) (by simp [go_sem]) (by simp [go_sem]); obtain ⟨u4, f4⟩ := hzl 4 (.int .i64 0) (by simp [go_sem]) (by simp [go_sem]); obtain ⟨u5, f5⟩ := hzl 5 (.int .i64 0) (by simp [go_sem]) (by simp [go_sem]); clear hzl))
      refine bodyPost_ret (v := .tuple #[.agg #[.string ⟨#[]⟩, .int .i64 0, .int .i64 0, .int .i64 0, .int .i64 0, .int .i64 0], .bool false]) (by simp [results, Try.results14, go_sem, u0, u1, u2, u3, u4, u5]; try rfl) rfl ⟨rfl, ?_⟩
      exact six_set H1.bel _ (by omega) _ _ _ _ _ _
  · have kk : (r.k == 1) = false := by simpa using hk
    have kne : (r.k != 1) = true := by simp [bne, kk]
    rw [decide_eq_false hk] at hz
    rw [if_neg fun h => hk h.1] at hp
    obtain rfl : false = z := hz
    subst hp
    have H0 := (RHeld.new (r := r) h).keep ((Below.refl _ _).alloc (Nat.le_refl _) (.cells #[.string ⟨#[]⟩, .int .i64 0, .int .i64 0, .int .i64 0, .int .i64 0, .int .i64 0] 34))
    unfold ptV
    unfold recV
    clear h hf hk
    go_enter Try.func14, Try.ntmps14
    go_wp2
    refine bodyPost_ret (v := .tuple #[.agg #[.string ⟨#[]⟩, .int .i64 0, .int .i64 0, .int .i64 0, .int .i64 0, .int .i64 0], .bool false]) (by simp [results, Try.results14, go_sem]; try rfl) rfl ⟨rfl, ?_⟩
    exact H0.bel
end Go.Proofs.Ytjckphmkhikpaaa
