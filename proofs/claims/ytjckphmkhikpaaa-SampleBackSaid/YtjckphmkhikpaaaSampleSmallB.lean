/- The contract of the laws' own small, with the numbers that it leaves told; Bytes' answers at once. -/
import Derived.Test.YtjckphmkhikpaaaSampleSmall
import Derived.Test.YtjckphmkhikpaaaSamplePBytes
import Derived.Test.YtjckphmkhikpaaaSampleRRead
set_option maxRecDepth 20000
namespace Go.Proofs.Ytjckphmkhikpaaa
open Go.RowKit Go.Proofs.Ytjckphmkhikpaaa.Vi Go.Proofs.Ytjckphmkhikpaaa.Mk

/-- The slice that small leaves. -/
def cut12 : Value → Value
  | .slice a n c => if 12 < n then .slice a 12 c else .slice a n c
  | v => v
theorem ArgNs.below {w w' : World} {v : Value} {l : List Int} (h : ArgNs w v l) (k : Below w.heap.size w w') : ArgNs w' v l := ⟨h.ns.later k, h.cap⟩
theorem ArgNs.cut {w : World} {v : Value} {l : List Int} (h : ArgNs w v l) : Nums w w.heap.size (cut12 v) (l.take 12) := by
  obtain ⟨a, n, cap, rfl, hlc⟩ := h.cap.out
  have h0 := h.ns
  obtain ⟨a', cap', he⟩ := h0.slice
  injection he with e1 e2 e3
  subst e1 e2 e3
  by_cases h12 : 12 < l.length
  · have e : cut12 (.slice a l.length cap) = .slice a 12 cap := if_pos h12
    rw [e]
    obtain ⟨⟨a2, cap2, he, hc⟩, hw, hs, hr⟩ := h0
    injection he with e1 e2 e3
    subst e1 e3
    have hl : (l.take 12).length = 12 := by rw [List.length_take]; omega
    refine ⟨⟨a, cap, by rw [hl], ?_⟩, fun n hn => hw n (List.mem_of_mem_take hn), by omega, hr⟩
    rcases hc with h0 | ⟨b, off, h3, h4, h5⟩
    · rw [h0] at h12; simp at h12
    · refine Or.inr ⟨b, off, h3, h4, fun j hj => ?_⟩
      rw [List.getElem_take]; exact h5 j (by omega)
  · have e : cut12 (.slice a l.length cap) = .slice a l.length cap := if_neg h12
    rw [e, List.take_of_length_le (by omega)]
    exact h0
set_option maxHeartbeats 2000000 in
theorem lsmall_cut (r : Rec) (dv : Value) (w : World) (h : ArgNs w dv r.d) : Calls Try.prog 10 #[recV r dv] w fun e w' => e = .returned (recV r.small (cut12 dv)) ∧ Below w.heap.size w w' := by
  have h0 := h.ns
  obtain ⟨y, hy⟩ : ∃ y, cutB r.s 60 = y := ⟨_, rfl⟩
  have ksh := fun w => short_is r.s y 60 60 w rfl (by omega) hy
  have HY := Lib.hid hy
  obtain ⟨a, cap, rfl⟩ := h0.slice
  obtain ⟨a', len', cap', he, hlc⟩ := h.cap.out
  injection he with e1 e2 e3
  subst e1 e2 e3
  unfold recV
  clear hy h h0
  by_cases h12 : (12 : Int) < (r.d.length : Int)
  · have hcap : (12 : Int) ≤ (cap : Int) := by omega
    have HC := Lib.hid (show cut12 (.slice a r.d.length cap) = .slice a 12 cap from if_pos (by omega))
    rw [HC.out]
    go_enter Try.func10, Try.ntmps10
    go_wp2_with (first | (go_at_call 11; (with_reducible refine (ksh _).mono ?_); rintro e w1 ⟨rfl, rfl⟩))
    refine bodyPost_ret (v := .agg #[.int .i64 r.k, .string y, .int .i64 r.t, .int .i64 r.v, .int .i64 r.tier, .int .i64 r.st.c, .int .i64 r.st.s, .int .i64 r.st.q, .slice a 12 cap]) (by simp [results, Try.results10, go_sem]; try rfl) rfl ⟨by unfold Rec.small; rw [← HY.out], ?_⟩
    exact bel_new ((Below.refl _ _).alloc (Nat.le_refl _) _) _
  · have HC := Lib.hid (show cut12 (.slice a r.d.length cap) = .slice a r.d.length cap from if_neg (by omega))
    rw [HC.out]
    go_enter Try.func10, Try.ntmps10
    go_wp2_with (first | (go_at_call 11; (with_reducible refine (ksh _).mono ?_); rintro e w1 ⟨rfl, rfl⟩))
    refine bodyPost_ret (v := .agg #[.int .i64 r.k, .string y, .int .i64 r.t, .int .i64 r.v, .int .i64 r.tier, .int .i64 r.st.c, .int .i64 r.st.s, .int .i64 r.st.q, .slice a r.d.length cap]) (by simp [results, Try.results10, go_sem]; try rfl) rfl ⟨by unfold Rec.small; rw [← HY.out], ?_⟩
    exact bel_new ((Below.refl _ _).alloc (Nat.le_refl _) _) _

/-- What Bytes answers. -/
def Rec.enc (r : Rec) : ByteArray × Int := if r.ok = true then (tx r.bytes, 0) else (⟨#[]⟩, 1)
theorem bytes6_is (r : Rec) (dv : Value) (w : World) (h : Ns w dv r.d) (hf : r.fits) : Calls Try.prog 12 #[recV r dv] w fun e w' => e = .returned (.tuple #[.string r.enc.1, .int .i64 r.enc.2]) ∧ Below w.heap.size w w' := by
  unfold Rec.enc
  cases hok : r.ok with
  | false => exact bytes6_no r dv w h hf hok
  | true =>
    rcases Rec.ok_kind hok with ⟨hk, _⟩ | ⟨hk, _⟩
    · exact bytes6_sample r dv w _ h hf hok hk (Lib.hid rfl)
    · exact bytes6_cut r dv w _ h hf hok hk (Lib.hid rfl)
theorem rbytes6_is (r : Rec) (dv : Value) (w : World) (h : Ns w dv r.d) (hf : r.fits) : Calls Try.prog 13 #[recV r dv] w fun e w' => e = .returned (.tuple #[.string r.enc.1, .int .i64 r.enc.2]) ∧ Below w.heap.size w w' := by
  unfold Rec.enc
  cases hok : r.ok with
  | false => exact rbytes6_no r dv w h hf hok
  | true =>
    rcases Rec.ok_kind hok with ⟨hk, _⟩ | ⟨hk, _⟩
    · exact rbytes6_sample r dv w _ h hf hok hk (Lib.hid rfl)
    · exact rbytes6_cut r dv w _ h hf hok hk (Lib.hid rfl)
/-- A record's block stored anew. -/
def nine (w : World) (b : Nat) (r : Rec) (dv : Value) : World := (((((((((w.setCell ⟨b, 0, none⟩ (.int .i64 r.k)).setCell ⟨b, 1, none⟩ (.string r.s)).setCell ⟨b, 2, none⟩ (.int .i64 r.t)).setCell ⟨b, 3, none⟩ (.int .i64 r.v)).setCell ⟨b, 4, none⟩ (.int .i64 r.tier)).setCell ⟨b, 5, none⟩ (.int .i64 r.st.c)).setCell ⟨b, 6, none⟩ (.int .i64 r.st.s)).setCell ⟨b, 7, none⟩ (.int .i64 r.st.q)).setCell ⟨b, 8, none⟩ dv)
set_option maxHeartbeats 1000000 in
theorem RecW.nine {w : World} {b : Nat} {r0 r : Rec} {dv0 dv : Value} (h : RecW w b r0 dv0) : RecW (nine w b r dv) b r dv := by
  obtain ⟨⟨x0, x1, x2, x3, x4, x5, x6, x7, x8⟩, y0, y1, y2, y3, y4, y5, y6, y7, y8⟩ := h
  unfold Go.Proofs.Ytjckphmkhikpaaa.nine
  exact ⟨⟨by simp [go_sem, x0], by simp [go_sem, x1], by simp [go_sem, x2], by simp [go_sem, x3], by simp [go_sem, x4], by simp [go_sem, x5], by simp [go_sem, x6], by simp [go_sem, x7], by simp [go_sem, x8]⟩,
    by simp [go_sem, y0], by simp [go_sem, y1], by simp [go_sem, y2], by simp [go_sem, y3], by simp [go_sem, y4], by simp [go_sem, y5], by simp [go_sem, y6], by simp [go_sem, y7], by simp [go_sem, y8]⟩
theorem nine_bel {B : Nat} {w a : World} {b : Nat} {r : Rec} {dv : Value} (h : Below B w a) (hb : B ≤ b) : Below B w (nine a b r dv) := nine_set h b hb _ _ _ _ _ _ _ _ _
end Go.Proofs.Ytjckphmkhikpaaa
