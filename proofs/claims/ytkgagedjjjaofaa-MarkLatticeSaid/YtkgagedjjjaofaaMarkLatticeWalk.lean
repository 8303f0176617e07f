/- The walk of law MarkLattice: it returns true and turns nothing that was there. -/
import Derived.Test.YtkgagedjjjaofaaMarkAwake
import Derived.Test.YtkgagedjjjaofaaMarkLatMath
import Derived.Test.YtkgagedjjjaofaaMarkArgs
namespace Go.Proofs.Ytkgagedjjjaofaa.markLattice
open Go.RowKit Go.Proofs.Ytkgagedjjjaofaa Go.Proofs.Ytkgagedjjjaofaa.Vi Go.Proofs.Ytkgagedjjjaofaa.Mk

set_option maxHeartbeats 16000000 in
theorem core (u1 u2 u3 : Value) (k1 k2 k3 : List Int) (w : World) (h1 : ArgNs w u1 k1) (h2 : ArgNs w u2 k2) (h3 : ArgNs w u3 k3) :
    Calls Try.prog 7 #[u1, u2, u3] w fun e w' => e = .returned (.bool true) ∧ Below w.heap.size w w' := by
  obtain ⟨a, ha⟩ : ∃ a, k1.take 12 = a := ⟨_, rfl⟩
  obtain ⟨b, hb0⟩ : ∃ b, k2.take 12 = b := ⟨_, rfl⟩
  obtain ⟨c, hc⟩ : ∃ c, k3.take 12 = c := ⟨_, rfl⟩
  have f1 := fun w h => fewN u1 k1 w h h1.cap
  have f2 := fun w h => fewN u2 k2 w h h2.cap
  have f3 := fun w h => fewN u3 k3 w h h3.cap
  have G1 := h1.ns
  have G2 := h2.ns
  have G3 := h3.ns
  rw [ha] at f1
  rw [hb0] at f2
  rw [hc] at f3
  obtain ⟨x1, hx1⟩ : ∃ x, covL c a = x := ⟨_, rfl⟩
  obtain ⟨x2, hx2⟩ : ∃ x, covL c b = x := ⟨_, rfl⟩
  obtain ⟨y1, hy1⟩ : ∃ x, covL a c = x := ⟨_, rfl⟩
  obtain ⟨y2, hy2⟩ : ∃ x, covL b c = x := ⟨_, rfl⟩
  have q1 := fun v1 v2 w h1 h2 => coversN v1 v2 (joinL a b) a w h1 h2
  have q2 := fun v1 v2 w h1 h2 => coversN v1 v2 (joinL a b) b w h1 h2
  have q3 := fun v1 v2 w h1 h2 => coversN v1 v2 a (meetL a b) w h1 h2
  have q4 := fun v1 v2 w h1 h2 => coversN v1 v2 b (meetL a b) w h1 h2
  have q5 := fun v1 v2 w h1 h2 => coversN v1 v2 c a w h1 h2
  have q6 := fun v1 v2 w h1 h2 => coversN v1 v2 c b w h1 h2
  have q7 := fun v1 v2 w h1 h2 => coversN v1 v2 c (joinL a b) w h1 h2
  have q8 := fun v1 v2 w h1 h2 => coversN v1 v2 a c w h1 h2
  have q9 := fun v1 v2 w h1 h2 => coversN v1 v2 b c w h1 h2
  have q10 := fun v1 v2 w h1 h2 => coversN v1 v2 (meetL a b) c w h1 h2
  rw [cov_join_left] at q1
  rw [cov_join_right] at q2
  rw [cov_meet_left] at q3
  rw [cov_meet_right] at q4
  rw [hx1] at q5
  rw [hx2] at q6
  rw [cov_join, hx1, hx2] at q7
  rw [hy1] at q8
  rw [hy2] at q9
  rw [cov_meet, hy1, hy2] at q10
  have s0 := fun v1 v2 l w h1 h2 => rsameN v1 v2 l l w h1 h2
  have s1 : ∀ v1 v2 l w, Ns w v1 l → Ns w v2 l → Calls Try.prog 24 #[v1, v2] w fun e w' => e = .returned (.bool true) ∧ Below w.heap.size w w' := fun v1 v2 l w h1 h2 => by
    have := s0 v1 v2 l w h1 h2
    rw [sameL_self] at this; exact this
  have r1 : ∀ v w, Ns w v (joinL a b) → Calls Try.prog 31 #[v] w fun e w' => e = .returned (.bool true) ∧ Below w.heap.size w w' := fun v w h => by
    have := rightN v (joinL a b) w h
    rw [plain_join, sameL_self] at this; exact this
  have r2 : ∀ v w, Ns w v (meetL a b) → Calls Try.prog 31 #[v] w fun e w' => e = .returned (.bool true) ∧ Below w.heap.size w w' := fun v w h => by
    have := rightN v (meetL a b) w h
    rw [plain_meet, sameL_self] at this; exact this
  have jab := fun v1 v2 w h1 h2 => joinN v1 v2 a b w h1 h2
  have jba := fun v1 v2 w h1 h2 => joinN v1 v2 b a w h1 h2
  have mab := fun v1 v2 w h1 h2 => meetN v1 v2 a b w h1 h2
  have mba := fun v1 v2 w h1 h2 => meetN v1 v2 b a w h1 h2
  have jja := fun v1 v2 w h1 h2 => joinN v1 v2 (joinL a b) a w h1 h2
  have jjc := fun v1 v2 w h1 h2 => joinN v1 v2 (joinL a b) c w h1 h2
  have jbc := fun v1 v2 w h1 h2 => joinN v1 v2 b c w h1 h2
  have jaj := fun v1 v2 w h1 h2 => joinN v1 v2 a (joinL b c) w h1 h2
  rw [join_comm b a] at jba
  rw [meet_comm b a] at mba
  rw [join_again] at jja
  rw [join_assoc] at jjc
  clear s0 hx1 hx2 hy1 hy2 ha hb0 hc h1 h2 h3
  cases x1 <;> cases y1
  all_goals
    go_enter Try.func7, Try.ntmps7
    go_wp2_with (first
      | (go_at_call 10; (with_reducible refine (awake_any _).mono ?_); rintro e w1 ⟨rfl, hb⟩; have G1 := G1.later hb; have G2 := G2.later hb; have G3 := G3.later hb; have B0 := hb)
      | (go_at_call 23; (with_reducible refine (f1 _ G1).mono ?_); rintro e wn ⟨va, rfl, Ga, rfl⟩)
      | (go_at_call 23; (with_reducible refine (f2 _ G2).mono ?_); rintro e wn ⟨vb, rfl, Gb, rfl⟩)
      | (go_at_call 23; (with_reducible refine (f3 _ G3).mono ?_); rintro e wn ⟨vc, rfl, Gc, rfl⟩)
      | (go_at_call 35; first | ((with_reducible refine (q1 _ _ _ Gj Ga).mono ?_); rintro e wn ⟨rfl, rfl⟩) | ((with_reducible refine (q2 _ _ _ Gj Gb).mono ?_); rintro e wn ⟨rfl, rfl⟩) | ((with_reducible refine (q3 _ _ _ Ga Gm).mono ?_); rintro e wn ⟨rfl, rfl⟩) | ((with_reducible refine (q4 _ _ _ Gb Gm).mono ?_); rintro e wn ⟨rfl, rfl⟩) | ((with_reducible refine (q5 _ _ _ Gc Ga).mono ?_); rintro e wn ⟨rfl, rfl⟩) | ((with_reducible refine (q6 _ _ _ Gc Gb).mono ?_); rintro e wn ⟨rfl, rfl⟩) | ((with_reducible refine (q7 _ _ _ Gc Gj).mono ?_); rintro e wn ⟨rfl, rfl⟩) | ((with_reducible refine (q8 _ _ _ Ga Gc).mono ?_); rintro e wn ⟨rfl, rfl⟩) | ((with_reducible refine (q9 _ _ _ Gb Gc).mono ?_); rintro e wn ⟨rfl, rfl⟩) | ((with_reducible refine (q10 _ _ _ Gm Gc).mono ?_); rintro e wn ⟨rfl, rfl⟩))
      | (go_at_call 24; first | ((with_reducible refine (s1 _ _ _ _ Gj Gx).mono ?_); rintro e wn ⟨rfl, hb⟩; have Ga := Ga.later hb; have Gb := Gb.later hb; have Gc := Gc.later hb; have Gj := Gj.later hb; have Gm := Gm.later hb; clear Gx) | ((with_reducible refine (s1 _ _ _ _ Gm Gy).mono ?_); rintro e wn ⟨rfl, hb⟩; have Ga := Ga.later hb; have Gb := Gb.later hb; have Gc := Gc.later hb; have Gj := Gj.later hb; have Gm := Gm.later hb; clear Gy) | ((with_reducible refine (s1 _ _ _ _ Gx Gj).mono ?_); rintro e wn ⟨rfl, hb⟩; have Ga := Ga.later hb; have Gb := Gb.later hb; have Gc := Gc.later hb; have Gj := Gj.later hb; have Gm := Gm.later hb; clear Gx) | ((with_reducible refine (s1 _ _ _ _ Gp Gq).mono ?_); rintro e wn ⟨rfl, hb⟩; have Ga := Ga.later hb; have Gb := Gb.later hb; have Gc := Gc.later hb; have Gj := Gj.later hb; have Gm := Gm.later hb))
      | (go_at_call 31; first | ((with_reducible refine (r1 _ _ Gj).mono ?_); rintro e wn ⟨rfl, hb⟩; have Ga := Ga.later hb; have Gb := Gb.later hb; have Gc := Gc.later hb; have Gj := Gj.later hb; have Gm := Gm.later hb) | ((with_reducible refine (r2 _ _ Gm).mono ?_); rintro e wn ⟨rfl, hb⟩; have Ga := Ga.later hb; have Gb := Gb.later hb; have Gc := Gc.later hb; have Gj := Gj.later hb; have Gm := Gm.later hb))
      | (go_at_call 25; first
        | ((with_reducible refine (jja _ _ _ Gj Ga).mono ?_); rintro e wn hz; obtain ⟨vx, rfl, Gx, hb⟩ := hz.ns; have Ga := Ga.later hb; have Gb := Gb.later hb; have Gc := Gc.later hb; have Gj := Gj.later hb; have Gm := Gm.later hb)
        | ((with_reducible refine (jjc _ _ _ Gp Gc).mono ?_); rintro e wn hz; obtain ⟨vp, rfl, Gp, hb⟩ := hz.ns; have Ga := Ga.later hb; have Gb := Gb.later hb; have Gc := Gc.later hb; have Gj := Gj.later hb; have Gm := Gm.later hb)
        | ((with_reducible refine (jbc _ _ _ Gb Gc).mono ?_); rintro e wn hz; obtain ⟨vq, rfl, Gq, hb⟩ := hz.ns; have Ga := Ga.later hb; have Gb := Gb.later hb; have Gc := Gc.later hb; have Gj := Gj.later hb; have Gm := Gm.later hb; have Gp := Gp.later hb)
        | ((with_reducible refine (jaj _ _ _ Ga Gq).mono ?_); rintro e wn hz; obtain ⟨vq, rfl, Gq, hb⟩ := hz.ns; have Ga := Ga.later hb; have Gb := Gb.later hb; have Gc := Gc.later hb; have Gj := Gj.later hb; have Gm := Gm.later hb; have Gp := Gp.later hb)
        | ((with_reducible refine (jba _ _ _ Gb Ga).mono ?_); rintro e wn hz; obtain ⟨vx, rfl, Gx, hb⟩ := hz.ns; have Ga := Ga.later hb; have Gb := Gb.later hb; have Gc := Gc.later hb; have Gj := Gj.later hb; have Gm := Gm.later hb)
        | ((with_reducible refine (jab _ _ _ Ga Gb).mono ?_); rintro e wn hz; have Gj0 := Gj; obtain ⟨vp, rfl, Gp, hb⟩ := hz.ns; have Ga := Ga.later hb; have Gb := Gb.later hb; have Gc := Gc.later hb; have Gj := Gj.later hb; have Gm := Gm.later hb)
        | ((with_reducible refine (jab _ _ _ Ga Gb).mono ?_); rintro e wn hz; obtain ⟨vj, rfl, Gj, hb⟩ := hz.ns; have Ga := Ga.later hb; have Gb := Gb.later hb; have Gc := Gc.later hb))
      | (go_at_call 27; first
        | ((with_reducible refine (mba _ _ _ Gb Ga).mono ?_); rintro e wn hz; obtain ⟨vy, rfl, Gy, hb⟩ := hz.ns; have Ga := Ga.later hb; have Gb := Gb.later hb; have Gc := Gc.later hb; have Gj := Gj.later hb; have Gm := Gm.later hb)
        | ((with_reducible refine (mab _ _ _ Ga Gb).mono ?_); rintro e wn hz; obtain ⟨vm, rfl, Gm, hb⟩ := hz.ns; have Ga := Ga.later hb; have Gb := Gb.later hb; have Gc := Gc.later hb; have Gj := Gj.later hb)))
    go_ret
    exact ⟨rfl, by (repeat (first | exact Below.refl _ _ | refine below_drewN ?_ _ | refine Below.drew ?_ | (refine Below.setCell ?_ (by simp; try omega) _) | refine bel_new ?_ _ | (refine bel_next ?_ (by assumption))))⟩

theorem walk (a0 : Option Addr) (len0 cap0 : Nat) (a1 : Option Addr) (len1 cap1 : Nat) (a2 : Option Addr) (len2 cap2 : Nat) (w : World) (h0 : ArgInts w a0 len0 cap0) (h1 : ArgInts w a1 len1 cap1) (h2 : ArgInts w a2 len2 cap2) :
    Calls Try.prog 7 #[.slice a0 len0 cap0, .slice a1 len1 cap1, .slice a2 len2 cap2] w fun e w' => e = .returned (.bool true) ∧ Below w.heap.size w w' := by
  obtain ⟨k0, g0⟩ := argNs_of h0
  obtain ⟨k1, g1⟩ := argNs_of h1
  obtain ⟨k2, g2⟩ := argNs_of h2
  exact core _ _ _ k0 k1 k2 w g0 g1 g2
end Go.Proofs.Ytkgagedjjjaofaa.markLattice
