/- Collect, SortedFunc, Values; the program's New. -/
import Derived.Test.YtdkenokjdiamhaaDoorWindowSeq
import Derived.Test.YtdkenokjdiamhaaDoorWindowSort
import Derived.Test.YtdkenokjdiamhaaDoorWindowTake
set_option maxRecDepth 20000
namespace Go.Proofs.YtdkenokjdiamhaaDoor
open Go.RowKit

theorem values_is (a : Option Addr) (n c : Nat) (w : World) : Calls Tryd.prog 48 #[.slice a n c] w fun e w' => e = .returned (VCL w.heap.size) ∧ w' = w.alloc (.cells #[.slice a n c] 29) := by
  have hmf : ∀ (fn : Fn) (first cap : Array Value) (w : World), (Instr.makeFunc fn first cap).run Tryd.prog w = .ok (.func fn first cap) w := fun _ _ _ _ => rfl
  go_enter Tryd.func48, Tryd.ntmps48
  go_wp2
  go_ret
  exact ⟨rfl, rfl⟩
theorem collect_is (Bs : Nat) (a : Option Addr) (c : Nat) (L : List Sp) (hreach : L.length ≤ 1000000) (w : World) (hBs : Bs < w.heap.size)
    (hc : w.cell? ⟨Bs, 0, none⟩ = some (.slice a L.length c)) (hI : Sps w w.heap.size a L) : Calls Tryd.prog 56 #[VCL Bs] w (SpansRow L w) := by
  have ka := callsIn_wide.1 (append_seq_in Fence.wide 3 trivial trivial rfl (Nat.le_refl _) Bs a c L hreach w hBs hc hI)
  clear hc hI
  go_enter Tryd.func56, Tryd.ntmps56
  go_wp2_with (go_at_call 63; (with_reducible refine ka.mono ?_); rintro e w1 ⟨v, rfl, hR, hB⟩)
  obtain ⟨a', c', rfl⟩ := hR.slice
  have HR := Lib.hid hR
  clear hR
  generalize L.length = m at *
  go_wp2
  go_ret
  exact ⟨_, rfl, HR.out, hB⟩
theorem sorted_is (Bs : Nat) (a : Option Addr) (c : Nat) (L : List Sp) (h02 : L.length = 0 ∨ L.length = 2) (hord : Hid (∀ k (h : k + 1 < L.length), L[k].f ≤ L[k + 1].f)) (w : World) (hBs : Bs < w.heap.size)
    (hc : w.cell? ⟨Bs, 0, none⟩ = some (.slice a L.length c)) (hI : Sps w w.heap.size a L) : Calls Tryd.prog 47 #[VCL Bs, BEG] w (SpansRow L w) := by
  have kc := collect_is Bs a c L (by omega) w hBs hc hI
  have ks := fun (a' : Option Addr) (c' : Nat) (w1 : World) (h : Sps w1 w1.heap.size a' L) => sort_is a' L.length c' L w1 (Lib.hid rfl) h h02 hord
  clear hc hI
  obtain ⟨m, hm⟩ : ∃ m, L.length = m := ⟨_, rfl⟩
  have HM := Lib.hid hm
  rw [hm] at ks
  clear hm h02
  go_enter Tryd.func47, Tryd.ntmps47
  go_wp2_with (first
    | (go_at_call 56; (with_reducible refine kc.mono ?_); rintro e w1 ⟨v, rfl, hR, hB⟩; (obtain ⟨a', c', rfl⟩ := hR.slice); (have HR := Lib.hid hR); (have ks1 := ks a' c' w1 hR.sps); (rw [HM.out]); clear hR)
    | (go_at_call 57; (with_reducible refine ks1.mono ?_); rintro e w2 ⟨⟨v, rfl⟩, hB2⟩))
  go_ret
  refine ⟨_, rfl, ?_, bel_next hB hB2⟩
  have := HR.out.later hB2
  rw [HM.out] at this
  exact this
theorem Moves.below {B : Nat} {w w' : World} {b : Nat} {v v' : Value} (h : Moves w w' b v v') (hB : B ≤ w.heap.size) (hb : B ≤ b) (hv : ∀ k, v.ownBlock = some k → B ≤ k) : Below B w w' :=
  ⟨h.os, h.tape, h.output, h.size, fun k hk => h.block k (by omega) (by omega) (fun e => by have := hv k e.symm; omega)⟩
/-- What New leaves: a set in a block of its own that has the times of all that are spans. -/
structure NewOk (L T : List Sp) : Prop where
  canon : Canon T
  has : ∀ x, inS T x ↔ ∃ s ∈ L, s.some_ = true ∧ s.f ≤ x ∧ x < s.t
def NewDone (L : List Sp) (w : World) (e : Ending) (w' : World) : Prop := ∃ b v T, e = .returned (.pointer (some ⟨b, 0, none⟩)) ∧ w.heap.size ≤ b ∧ SetAt w' b v T ∧ NewOk L T ∧ Below w.heap.size w w'
theorem SetAt.new (w : World) (T : TypeId) : SetAt (w.alloc (.cells #[.slice none 0 0] T)) w.heap.size (.slice none 0 0) [] := ⟨by simp [go_sem], by simp [go_sem], SpRow.nil _ _⟩
theorem SetAt.own {w : World} {b : Nat} {v : Value} {L : List Sp} (h : SetAt w b v L) : ∀ k, v.ownBlock = some k → b + 1 ≤ k := fun k e => (World.ownsRow.lt h.row k e).1

set_option maxHeartbeats 4000000 in
theorem new_is (a : Option Addr) (c : Nat) (L : List Sp) (h02 : L.length = 0 ∨ L.length = 2) (hord : Hid (∀ k (h : k + 1 < L.length), L[k].f ≤ L[k + 1].f)) (htop : ∀ s ∈ L, s.t ≤ 1000) (w : World) (hI : Sps w w.heap.size a L) :
    Calls Tryd.prog 33 #[.slice a L.length c] w (NewDone L w) := by
  have hA := (Below.refl w.heap.size w).alloc (Nat.le_refl _) (.cells #[.slice none 0 0] 62)
  have hS0 := SetAt.new w 62
  obtain ⟨W0, hW0⟩ : ∃ W0, w.alloc (.cells #[.slice none 0 0] 62) = W0 := ⟨_, rfl⟩
  have hI0 : Sps W0 W0.heap.size a L := by
    rw [← hW0]; exact (hI.below hA).mono (by simp)
  have hsz0 : W0.heap.size = w.heap.size + 1 := by rw [← hW0]; simp
  rw [hW0] at hA hS0
  have kv := values_is a L.length c W0
  have hB1 := (Below.refl W0.heap.size W0).alloc (Nat.le_refl _) (.cells #[.slice a L.length c] 29)
  have ks := sorted_is W0.heap.size a c L h02 hord (W0.alloc (.cells #[.slice a L.length c] 29)) (by simp) (by simp [go_sem]) ((hI0.below hB1).mono (by simp))
  have HB1 := Lib.hid hB1
  have HT := Lib.hid htop
  have HS0 := Lib.hid hS0
  obtain ⟨m, hm⟩ : ∃ m, L.length = m := ⟨_, rfl⟩
  have HM := Lib.hid hm
  rw [hm] at kv ks HB1 h02 ⊢
  have hm2 : m ≤ 2 := by omega
  have HSZ := Lib.hid hsz0
  have HW0 := Lib.hid hW0
  clear hI hI0 htop hm h02 hB1 hS0 hsz0
  go_enter Tryd.func33, Tryd.ntmps33
  go_wp2_with (first
    | (go_at_call 48; (with_reducible refine kv.mono ?_); rintro e w1 ⟨rfl, rfl⟩)
    | (go_at_call 47; (with_reducible refine ks.mono ?_); rintro e w2 ⟨v, rfl, hR, hB2⟩; (obtain ⟨a2, c2, rfl⟩ := hR.slice); (have HSP := Lib.hid hR.sps); (have HG := Lib.hid (fun k e => (World.ownsRow.lt hR k e).1)); (have HB2 := Lib.hid (HB1.out.trans (hB2.mono (by simp)))); (rw [HM.out]); clear hR hB2))
  have HA := Lib.hid (hA.trans (HB2.out.mono (by have := HSZ.out; omega)))
  have HS2 := Lib.hid (HS0.out.later HB2.out)
  rcases HSP.out.at_ with h0 | ⟨g, off, rfl, hgw, hc⟩
  · have hm0 : m = 0 := by rw [← HM.out, h0]; rfl
    subst hm0
    have HL := Lib.hid h0
    go_loopw [12] (fun x wr => x = .int .i64 0 ∧ wr = w2) (fun _ _ => 0)
    case atStart => exact ⟨rfl, rfl⟩
    case round =>
      obtain ⟨rfl, rfl⟩ := hrel
      go_wp2
      go_ret
      exact ⟨_, _, [], rfl, Nat.le_refl _, HS2.out, ⟨⟨List.Pairwise.nil, by simp⟩, fun x => by rw [HL.out]; unfold inS; simp⟩, HA.out⟩
  · have hgb : g ≠ w.heap.size := by
      have := HG.out g rfl
      have := HSZ.out
      simp at *
      omega
    have HC := Lib.hid hc
    clear hc
    go_loopw [12] (fun x wr => ∃ (k : Nat) (T : List Sp) (v : Value), x = .int .i64 (k : Int) ∧ k ≤ m ∧ SetAt wr w.heap.size v T ∧ NewOk (L.take k) T ∧ Below w.heap.size w wr ∧ v.ownBlock ≠ some g ∧ Hid (∀ j (h : j < L.length), SpO wr g (off + j * 2) L[j])) (fun x _ => m - (intOf x).toNat)
    case atStart => exact ⟨0, [], _, rfl, Nat.zero_le _, HS2.out, ⟨⟨List.Pairwise.nil, by simp⟩, fun x => by unfold inS; simp⟩, HA.out, by simp [Value.ownBlock], HC⟩
    case round =>
      obtain ⟨k, T, v, rfl, hk, hS, hN, hB, hv, hcc⟩ := hrel
      obtain ⟨w3, hw3⟩ : ∃ x, x = wr := ⟨_, rfl⟩
      subst hw3
      by_cases hkm : k < m
      · have hkmi : (k : Int) < (m : Int) := by omega
        have hkL : k < L.length := by rw [HM.out]; exact hkm
        obtain ⟨q, hq⟩ : ∃ q, L[k] = q := ⟨_, rfl⟩
        have cq := hcc.out k hkL
        rw [hq] at cq
        have hgw3 := cq.room
        obtain ⟨q0, q1⟩ := cq
        have hwk : IntKind.i64.wrap ((k : Int) + 1) = (k : Int) + 1 := by rw [IntKind.wrap_i64]; omega
        have hB4 := (Below.refl w3.heap.size w3).alloc (Nat.le_refl _) (.cells #[.int .i64 q.f, .int .i64 q.t] 26)
        have hlenT : T.length ≤ 1000 := hN.canon.len_le (K := 1000) fun x hx => by
          obtain ⟨s, hs, _, _, h3⟩ := (hN.has x).1 hx
          have := HT.out s (List.mem_of_mem_take hs)
          omega
        have ka := add_is w.heap.size v T q (w3.alloc (.cells #[.int .i64 q.f, .int .i64 q.t] 26)) (hS.later hB4) hN.canon (by omega)
        have hsz3 := hB.size
        have HST := Lib.hid (fun (w4 : World) (e : Ending) (h : AddDone w.heap.size v T q (w3.alloc (.cells #[.int .i64 q.f, .int .i64 q.t] 26)) e w4) => show ∃ z T' v', e = .returned (.bool z) ∧ SetAt w4 w.heap.size v' T' ∧ NewOk (L.take (k + 1)) T' ∧ Below w.heap.size w w4 ∧ v'.ownBlock ≠ some g ∧ (∀ j (h : j < L.length), SpO w4 g (off + j * 2) L[j]) by
          obtain ⟨T', ⟨v', rfl, hset, hmv⟩, hadd⟩ := h
          have hgw4 : g < (w3.alloc (.cells #[.int .i64 q.f, .int .i64 q.t] 26)).heap.size := by simp; omega
          refine ⟨_, T', v', rfl, hset, ⟨hadd.canon, fun x => ?_⟩, ?_, hmv.not hv hgw4, fun j hj => ?_⟩
          · rw [hadd.has x, hN.has x, List.take_succ_eq_append_getElem hkL, hq]
            constructor
            · rintro (⟨s, hs, h⟩ | h)
              · exact ⟨s, List.mem_append_left _ hs, h⟩
              · exact ⟨q, by simp, h⟩
            · rintro ⟨s, hs, h⟩
              rcases List.mem_append.1 hs with hs | hs
              · exact Or.inl ⟨s, hs, h⟩
              · rw [List.mem_singleton] at hs; subst hs; exact Or.inr h
          · exact (bel_new hB _).trans (hmv.below (by simp; omega) (Nat.le_refl _) (fun q e => by have := hS.own q e; omega))
          · have h5 := (hcc.out j hj).below hB4 hgw3
            exact ⟨(hmv.cell (p := ⟨g, off + j * 2, none⟩) hgw4 hgb (Ne.symm hv)).trans h5.c0, (hmv.cell (p := ⟨g, off + j * 2 + 1, none⟩) hgw4 hgb (Ne.symm hv)).trans h5.c1⟩)
        unfold Sp.v at ka
        clear hq hB hS hN hv hcc hB4 hgw3
        go_wp2_with (go_at_call 37; (with_reducible refine ka.mono ?_); rintro e w4 hdone; obtain ⟨z, T', v', rfl, h1, h2, h3, h4, h5⟩ := HST.out w4 e hdone)
        go_roundw
        case rel => exact ⟨k + 1, T', v', by go_num, hkm, h1, h2, h3, h4, Lib.hid h5⟩
        case measure => simp [intOf]; omega
      · have hkmi : ¬ (k : Int) < (m : Int) := by omega
        have HNW := Lib.hid (show NewOk L T by rw [List.take_of_length_le (by rw [HM.out]; omega)] at hN; exact hN)
        clear hN
        go_wp2
        go_ret
        exact ⟨_, v, T, rfl, Nat.le_refl _, hS, HNW.out, hB⟩
end Go.Proofs.YtdkenokjdiamhaaDoor
