/- The walk of law SampleReads: it returns true and turns nothing that was there. -/
import Derived.Test.YtjckphmkhikpaaaSampleAwake
import Derived.Test.YtjckphmkhikpaaaSamplePRead
import Derived.Test.YtjckphmkhikpaaaSampleRListP
import Derived.Test.YtjckphmkhikpaaaSampleSameP
set_option maxRecDepth 50000
namespace Go.Proofs.Ytjckphmkhikpaaa.sampleReads
open Go.RowKit Go.Proofs.Ytjckphmkhikpaaa Go.Proofs.Ytjckphmkhikpaaa.Vi Go.Proofs.Ytjckphmkhikpaaa.Mk

theorem same_self (r : Rec) : r.same r = true := by unfold Rec.same; rw [sameL_self]; simp
theorem ptsQ_len {S : ByteArray} : ((ptsQ S).getD []).length ≤ 1000 := by
  cases h : ptsQ S with
  | none => simp
  | some l => exact (ptsQ_some h).2.1

set_option maxHeartbeats 16000000 in
theorem walk (s0 : ByteArray) (w : World) (_ : s0.size ≤ maxLen) : Calls Try.prog 4 #[.string s0] w fun e w' => e = .returned (.bool true) ∧ Below w.heap.size w w' := by
  obtain ⟨S, hS⟩ : ∃ S, cutB s0 1000 = S := ⟨_, rfl⟩
  have hz := (cutB_size s0 1000).1
  rw [hS] at hz
  have hsh := fun w => short_is s0 S 1000 1000 w rfl (by omega) (Lib.hid hS)
  have k1 := fun w => pread6_is S w (by omega)
  have k2 := fun w => rread6_is S w (by omega)
  have k3 := fun w => readpoints_is S w (by omega)
  have k4 := fun w => rreadpoints_is S w (by omega)
  unfold Read6Done at k1 k2
  unfold RPDone at k3 k4
  obtain ⟨r, hr⟩ : ∃ r, (recQ S).getD Rec.zero = r := ⟨_, rfl⟩
  obtain ⟨er, her⟩ : ∃ er : Int, (if (recQ S).isSome then 0 else 10) = er := ⟨_, rfl⟩
  obtain ⟨l, hl⟩ : ∃ l, (ptsQ S).getD [] = l := ⟨_, rfl⟩
  obtain ⟨el, hel⟩ : ∃ el : Int, (if (ptsQ S).isSome then 0 else 10) = el := ⟨_, rfl⟩
  have hlen : l.length ≤ 1000 := by rw [← hl]; exact ptsQ_len
  rw [hr, her] at k1 k2
  rw [hl, hel] at k3 k4
  have k5 := fun da db w ha hb => rsamer_is r r da db true w ha hb (Lib.hid (same_self r))
  have k6 := fun a0 b0 ca cb w ha hb => rsamep_is a0 b0 ca cb l l true w ha hb (by omega) (by omega) (Lib.hid (by unfold sameP; simp))
  unfold recV at k1 k2 k5
  have HL := Lib.hid hlen
  clear hS hz hr her hl hel hlen
  go_enter Try.func4, Try.ntmps4
  go_wp2_with (first
    | (go_at_call 9; (with_reducible refine (awake_any _).mono ?_); rintro e w1 ⟨rfl, hb1⟩)
    | (go_at_call 11; (with_reducible refine (hsh _).mono ?_); rintro e w0 ⟨rfl, rfl⟩)
    | (go_at_call 20; (with_reducible refine (k1 _).mono ?_); rintro e w2 ⟨dv, rfl, hN2, hb2⟩; obtain ⟨da, dc, rfl⟩ := hN2.slice; have H1 := RHeld.new (r := r) hN2; have B2 := bel_new (bel_next hb1 hb2) (.cells #[.int .i64 r.k, .string r.s, .int .i64 r.t, .int .i64 r.v, .int .i64 r.tier, .int .i64 r.st.c, .int .i64 r.st.s, .int .i64 r.st.q, .slice da r.d.length dc] 26))
    | (go_at_call 21; (with_reducible refine (k2 _).mono ?_); rintro e w3 ⟨dv, rfl, hN3, hb3⟩; obtain ⟨da2, dc2, rfl⟩ := hN3.slice; have H2 := RHeld.new (r := r) hN3; have hal := (Below.refl w3.heap.size w3).alloc (Nat.le_refl _) (.cells #[.int .i64 r.k, .string r.s, .int .i64 r.t, .int .i64 r.v, .int .i64 r.tier, .int .i64 r.st.c, .int .i64 r.st.s, .int .i64 r.st.q, .slice da2 r.d.length dc2] 26); have H1 := (H1.keep hb3).keep hal; have B3 := bel_next (bel_next B2 hb3) hal)
    | (go_at_call 22; (with_reducible refine (k3 _).mono ?_); rintro e w4 ⟨v, rfl, hP4, hb4⟩; obtain ⟨a5, c5, rfl⟩ := hP4.slice; have H1 := H1.keep hb4; have H2 := H2.keep hb4; have B4 := bel_next B3 hb4)
    | (go_at_call 23; (with_reducible refine (k4 _).mono ?_); rintro e w5 ⟨v, rfl, hP5, hb5⟩; obtain ⟨a6, c6, rfl⟩ := hP5.slice; have hP4 := hP4.later hb5; have H1 := H1.keep hb5; have H2 := H2.keep hb5; have B5 := bel_next B4 hb5; have G := H1.at_; obtain ⟨x0, x1, x2, x3, x4, x5, x6, x7, x8⟩ := G; have G := H2.at_; obtain ⟨y0, y1, y2, y3, y4, y5, y6, y7, y8⟩ := G)
    | (go_at_call 24; (with_reducible refine (k5 _ _ _ H1.ns H2.ns).mono ?_); rintro e w6 ⟨rfl, hb6⟩; have hP4 := (hP4.later hb6).pts; have hP5 := (hP5.later hb6).pts; have B6 := bel_next B5 hb6)
    | (go_at_call 25; (with_reducible refine (k6 _ _ _ _ _ hP4 hP5).mono ?_); rintro e w7 ⟨rfl, hb7⟩; have B7 := bel_next B6 hb7))
  go_ret
  exact ⟨rfl, B7⟩
end Go.Proofs.Ytjckphmkhikpaaa.sampleReads
