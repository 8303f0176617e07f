/- The set's Add. -/
import Derived.Test.YtdkenokjdiamhaaDoorWindowPut
import Derived.Test.YtdkenokjdiamhaaDoorWindowSetMath
set_option maxRecDepth 20000
namespace Go.Proofs.YtdkenokjdiamhaaDoor
open Go.RowKit Go.Lib

/-- What Add leaves. -/
def AddDone (b : Nat) (v : Value) (L : List Sp) (s : Sp) (w : World) (e : Ending) (w' : World) : Prop := ∃ T, PutDone b v L T w e w' ∧ AddOk L s T
def TakeDone (b : Nat) (v : Value) (L : List Sp) (s : Sp) (w : World) (e : Ending) (w' : World) : Prop := ∃ T, PutDone b v L T w e w' ∧ TakeOk L s T
theorem SrcOk.fresh {w : World} {b : Nat} {v : Value} {L : List Sp} (h : SetAt w b v L) (w' : World) (hg : Below w.heap.size w w') (m : Sp) : SrcOk (w'.alloc (.cells #[.int .i64 m.f, .int .i64 m.t] 26)) v.ownBlock (some ⟨w'.heap.size, 0, none⟩) [m] := by
  refine Or.inr ⟨w'.heap.size, 0, rfl, fun e => ?_, fun j hj => ?_, fun j => ?_⟩
  · have := (World.ownsRow.lt h.row w'.heap.size e.symm).2
    have := hg.size
    omega
  · have hj0 : j = 0 := by simp at hj; omega
    subst hj0
    constructor <;> simp [go_sem]
  · simp [go_sem]
theorem add_nil (s : Sp) (w : World) : Calls Tryd.prog 37 #[.pointer none, s.v] w fun e w' => e = .returned (.bool false) ∧ Below w.heap.size w w' := by
  have hB := (Below.refl w.heap.size w).alloc (Nat.le_refl _) (.cells #[.int .i64 s.f, .int .i64 s.t] 26)
  rw [show s.v = .agg #[.int .i64 s.f, .int .i64 s.t] from rfl]
  go_enter Tryd.func37, Tryd.ntmps37
  go_wp2
  go_ret
  exact ⟨rfl, hB⟩
theorem take_nil (s : Sp) (w : World) : Calls Tryd.prog 35 #[.pointer none, s.v] w fun e w' => e = .returned (.bool false) ∧ Below w.heap.size w w' := by
  have hB := (Below.refl w.heap.size w).alloc (Nat.le_refl _) (.cells #[.int .i64 s.f, .int .i64 s.t] 26)
  rw [show s.v = .agg #[.int .i64 s.f, .int .i64 s.t] from rfl]
  go_enter Tryd.func35, Tryd.ntmps35
  go_wp2
  go_ret
  exact ⟨rfl, hB⟩
theorem put_not {b : Nat} {v : Value} {L : List Sp} {w w' : World} (h : SetAt w b v L) (hb : Below w.heap.size w w') : PutDone b v L L w (.returned (.bool false)) w' := ⟨v, by simp [changed], h.later hb, Moves.of _ _ hb⟩
theorem add_no (b : Nat) (v : Value) (L : List Sp) (s : Sp) (w : World) (hS : SetAt w b v L) (hC : Canon L) (hs : s.some_ = false) : Calls Tryd.prog 37 #[.pointer (some ⟨b, 0, none⟩), s.v] w (AddDone b v L s w) := by
  have hB := (Below.refl w.heap.size w).alloc (Nat.le_refl _) (.cells #[.int .i64 s.f, .int .i64 s.t] 26)
  have kh := fun w => has_times_is s false w (Lib.hid hs)
  have HF := Lib.hid (fun w' (h : Below w.heap.size w w') => show AddDone b v L s w (.returned (.bool false)) w' from ⟨L, put_not hS h, add_not hC hs⟩)
  unfold Sp.v at kh ⊢
  clear hS hs hC
  go_enter Tryd.func37, Tryd.ntmps37
  go_wp2_with (go_at_call 50; (with_reducible refine (kh _).mono ?_); rintro e w1 ⟨rfl, hb1⟩)
  go_ret
  exact HF.out _ (bel_next hB hb1)
theorem take_no (b : Nat) (v : Value) (L : List Sp) (s : Sp) (w : World) (hS : SetAt w b v L) (hC : Canon L) (hs : s.some_ = false) : Calls Tryd.prog 35 #[.pointer (some ⟨b, 0, none⟩), s.v] w (TakeDone b v L s w) := by
  have hB := (Below.refl w.heap.size w).alloc (Nat.le_refl _) (.cells #[.int .i64 s.f, .int .i64 s.t] 26)
  have kh := fun w => has_times_is s false w (Lib.hid hs)
  have HF := Lib.hid (fun w' (h : Below w.heap.size w w') => show TakeDone b v L s w (.returned (.bool false)) w' from ⟨L, put_not hS h, take_not hC hs⟩)
  unfold Sp.v at kh ⊢
  clear hS hs hC
  go_enter Tryd.func35, Tryd.ntmps35
  go_wp2_with (go_at_call 50; (with_reducible refine (kh _).mono ?_); rintro e w1 ⟨rfl, hb1⟩)
  go_ret
  exact HF.out _ (bel_next hB hb1)
/-- Held while Add goes over the spans that are touched: the box of s, which may be written. -/
structure AR (w : World) (s : Sp) (wr : World) : Prop where
  at_ : SpW wr w.heap.size s
  bel : Below w.heap.size w wr
theorem AR.keep {w w1 w2 : World} {s : Sp} (h : AR w s w1) (k : Below w1.heap.size w1 w2) : AR w s w2 := ⟨h.at_.below k, bel_next h.bel k⟩
theorem AR.alloc {w w1 : World} {s : Sp} (h : AR w s w1) (o : Obj) : AR w s (w1.alloc o) := h.keep ((Below.refl _ _).alloc (Nat.le_refl _) o)
theorem AR.drew {w w1 : World} {s : Sp} (h : AR w s w1) : AR w s w1.drew := h.keep ((Below.refl _ _).drew)
theorem AR.new (w : World) (s : Sp) : AR w s (w.alloc (.cells #[.int .i64 s.f, .int .i64 s.t] 26)) := ⟨SpW.new w s _, (Below.refl _ _).alloc (Nat.le_refl _) _⟩
theorem AR.put {w w1 : World} {s : Sp} (h : AR w s w1) (x y : Int) : AR w ⟨x, y⟩ ((w1.setCell ⟨w.heap.size, 0, none⟩ (.int .i64 x)).setCell ⟨w.heap.size, 1, none⟩ (.int .i64 y)) := by
  obtain ⟨⟨⟨c0, c1⟩, f0, f1⟩, hb⟩ := h
  refine ⟨⟨⟨?_, ?_⟩, ?_, ?_⟩, two_set hb _ (Nat.le_refl _) _ _⟩
  · rw [World.cell?_setCell_other _ _ _ _ (by simp)]
    exact World.cell?_setCell_same _ _ _ c0
  · have h1 : (w1.setCell ⟨w.heap.size, 0, none⟩ (.int .i64 x)).cell? ⟨w.heap.size, 1, none⟩ = some (.int .i64 s.t) := by
      rw [World.cell?_setCell_other _ _ _ _ (by simp)]
      exact c1
    exact World.cell?_setCell_same _ _ _ h1
  · simp [go_sem, f0]
  · simp [go_sem, f1]
set_option maxHeartbeats 4000000 in
theorem add_some (b : Nat) (v : Value) (L : List Sp) (s : Sp) (w : World) (hS : SetAt w b v L) (hC : Canon L) (hs : s.some_ = true) (hlen : L.length ≤ 100000) : Calls Tryd.prog 37 #[.pointer (some ⟨b, 0, none⟩), s.v] w (AddDone b v L s w) := by
  obtain ⟨a, c, rfl⟩ := hS.row.slice
  obtain ⟨n, hn⟩ : ∃ n, L.length = n := ⟨_, rfl⟩
  have hb := hS.room
  have hcn : L.length ≤ c := by
    rcases hS.row.2 with ⟨e, h0⟩ | ⟨g', cap', cur', e, _, _, hf, _⟩
    · omega
    · injection e with e1 e2 e3; omega
  have kh := fun w => has_times_is s true w (Lib.hid hs)
  have hA0 := AR.new w s
  have kt := fun w' (h : Below w.heap.size w w') => touched_is b _ L s w' (hS.later h) hC (by omega)
  have HN := Lib.hid hn
  have c0 := hS.cell
  have HS := Lib.hid hS
  have HC := Lib.hid hC
  have HSS := Lib.hid hs
  have hsp := hS.row.sps
  have kp := fun (w' : World) (h : Below w.heap.size w w') (m : Sp) (T : List Sp) (i j : Nat) (hij : i ≤ j) (hj : j ≤ L.length) hT => put_is b (.slice a L.length c) L [m] T i j (some ⟨w'.heap.size, 0, none⟩) 1 1 (w'.alloc (.cells #[.int .i64 m.f, .int .i64 m.t] 26)) (hS.later (bel_new h _)) hij hj rfl (SrcOk.fresh hS w' h m) (by simp; omega) hT
  have KP := Lib.hid kp
  rw [hn] at c0 HS KP hcn hlen ⊢
  unfold Sp.v at kh kt ⊢
  have HA0 := Lib.hid hA0
  have HSP := Lib.hid hsp
  have HCN := Lib.hid hcn
  clear hS hC hs hn hA0 kp hsp hcn
  go_enter Tryd.func37, Tryd.ntmps37
  go_wp2_with (first
    | (go_at_call 50; (with_reducible refine (kh _).mono ?_); rintro e w1 ⟨rfl, hb1⟩; have HA1 := Lib.hid (HA0.out.keep hb1); (have hG := HA1.out.at_.at_; obtain ⟨x0, x1⟩ := hG))
    | (go_at_call 51; (with_reducible refine (kt _ HA1.out.bel).mono ?_); rintro e w2 ⟨i, j, rfl, hto, hb2⟩; have HA2 := Lib.hid (HA1.out.keep hb2); (have cv := (HA2.out.bel.cell (p := ⟨b, 0, none⟩) hb).trans c0); (have hij := hto.le); (have hjL := hto.len); (obtain ⟨d, hd⟩ : ∃ d, j - i = d := ⟨_, rfl⟩); (obtain ⟨p, hpa, hp, hp'⟩ := cut_mid a n c i j (i : Int) (j : Int) rfl rfl hij (by rw [← HN.out] at *; have := HCN.out; omega)); (rw [hd] at hp hp'); (have HMID := Lib.hid (show Sps w w.heap.size p ((L.drop i).take d) from by
        rw [← hd]
        rcases HSP.out.at_ with h0 | ⟨g, off, e, hgw, hcells⟩
        · refine ⟨Or.inl ?_⟩; rw [h0]; simp
        · subst e; exact Sps.mid hcells hgw i j hij hjL p hpa (by rw [HN.out]; exact HCN.out))); (have HML := Lib.hid (show ((L.drop i).take d).length = d by rw [← hd]; exact mid_len L i j hij hjL)); (have HTO := Lib.hid hto); (have HD := Lib.hid hd); (have HIJ := Lib.hid hij); (have HJL := Lib.hid hjL); clear hto hpa hd hij hjL x0 x1))
  obtain ⟨mid, hmid⟩ : ∃ mid, (L.drop i).take d = mid := ⟨_, rfl⟩
  rw [hmid] at HMID HML
  have HMD := Lib.hid hmid
  clear hmid cv hp hp'
  have hdn : d ≤ 100000 := by have := HD.out; have := HJL.out; rw [HN.out] at this; omega
  go_loopw [30] (fun x wr => ∃ k : Nat, x = .int .i64 (k : Int) ∧ k ≤ d ∧ AR w (mg s (mid.take k)) wr) (fun x _ => d - (intOf x).toNat)
  case atStart => exact ⟨0, rfl, Nat.zero_le _, HA2.out⟩
  case round =>
    obtain ⟨k, rfl, hk, hA⟩ := hrel
    obtain ⟨w3, hw3⟩ : ∃ x, x = wr := ⟨_, rfl⟩
    subst hw3
    have hB3 := hA.bel
    obtain ⟨m, hm⟩ : ∃ m, mg s (mid.take k) = m := ⟨_, rfl⟩
    rw [hm] at hA
    by_cases hkd : k < d
    · have hkdi : (k : Int) < (d : Int) := by omega
      have hkm : k < mid.length := by rw [HML.out]; exact hkd
      rcases HMID.out.at_ with h0 | ⟨g, off, rfl, hgw, hc⟩
      · rw [h0] at hkm; simp at hkm
      · obtain ⟨q, hq⟩ : ∃ q, mid[k] = q := ⟨_, rfl⟩
        have cq := (hc k hkm).below hB3 hgw
        rw [hq] at cq
        obtain ⟨q0, q1⟩ := cq
        have hnext : mg s (mid.take (k + 1)) = ⟨min m.f q.f, max m.t q.t⟩ := by
          rw [List.take_succ_eq_append_getElem hkm, mg_snoc, hm, hq]
        have hA4 := hA.alloc (.cells #[.int .i64 q.f, .int .i64 q.t] 26)
        have HA4 := Lib.hid hA4
        obtain ⟨⟨⟨y0, y1⟩, z0, z1⟩, -⟩ := hA4
        have hsz := hB3.size
        have hr3 := hA.at_.at_.room
        have hne1 : ¬ w.heap.size = w3.heap.size := by omega
        have hne2 : ¬ w3.heap.size = w.heap.size := by omega
        have hwk : IntKind.i64.wrap ((k : Int) + 1) = (k : Int) + 1 := by rw [IntKind.wrap_i64]; omega
        have HNX := Lib.hid hnext
        clear hc hq hm hA hr3 hB3 hnext
        by_cases hf : q.f < m.f
        · by_cases ht : m.t < q.t
          · have HE := Lib.hid (show (⟨min m.f q.f, max m.t q.t⟩ : Sp) = ⟨q.f, q.t⟩ by congr 1 <;> omega)
            go_wp2_with fail
            go_region
            go_wp2
            go_roundw
            case rel => exact ⟨k + 1, by go_num, hkd, by rw [HNX.out, HE.out]; exact (HA4.out.put _ _).drew⟩
            case measure => simp [intOf]; omega
          · have HE := Lib.hid (show (⟨min m.f q.f, max m.t q.t⟩ : Sp) = ⟨q.f, m.t⟩ by congr 1 <;> omega)
            go_wp2_with fail
            go_region
            go_wp2
            go_roundw
            case rel => exact ⟨k + 1, by go_num, hkd, by rw [HNX.out, HE.out]; exact (HA4.out.put _ _).drew⟩
            case measure => simp [intOf]; omega
        · by_cases ht : m.t < q.t
          · have HE := Lib.hid (show (⟨min m.f q.f, max m.t q.t⟩ : Sp) = ⟨m.f, q.t⟩ by congr 1 <;> omega)
            go_wp2_with fail
            go_region
            go_wp2
            go_roundw
            case rel => exact ⟨k + 1, by go_num, hkd, by rw [HNX.out, HE.out]; exact (HA4.out.put _ _).drew⟩
            case measure => simp [intOf]; omega
          · have HE := Lib.hid (show (⟨min m.f q.f, max m.t q.t⟩ : Sp) = ⟨m.f, m.t⟩ by congr 1 <;> omega)
            go_wp2_with fail
            go_region
            go_wp2
            go_roundw
            case rel => exact ⟨k + 1, by go_num, hkd, by rw [HNX.out, HE.out]; exact (HA4.out.put _ _).drew⟩
            case measure => simp [intOf]; omega
    · have hkdi : ¬ (k : Int) < (d : Int) := by omega
      have hmE : mg s mid = m := by rw [← hm, List.take_of_length_le (by rw [HML.out]; omega)]
      have HADD := Lib.hid (show AddOk L s (L.take i ++ [m] ++ L.drop j) by
        rw [← hmE, ← HMD.out, ← HD.out]
        exact add_ok HC.out HSS.out HTO.out)
      obtain ⟨T, hT⟩ : ∃ T, L.take i ++ [m] ++ L.drop j = T := ⟨_, rfl⟩
      have kq := KP.out w3 hB3 m T i j HIJ.out (by have := HJL.out; rw [HN.out] at this; exact this) hT
      rw [hT] at HADD
      have HMV := Lib.hid (Moves.of b (.slice a n c) (bel_new hB3 (.cells #[.int .i64 m.f, .int .i64 m.t] 26)))
      obtain ⟨⟨⟨y0, y1⟩, -, -⟩, -⟩ := hA
      clear hm hmE hT hB3
      go_wp2_with (go_at_call 52; (with_reducible refine kq.mono ?_); rintro e w4 ⟨v', rfl, hset, hmv⟩)
      go_ret
      exact ⟨T, ⟨v', rfl, hset, HMV.out.trans hmv⟩, HADD.out⟩
end Go.Proofs.YtdkenokjdiamhaaDoor
