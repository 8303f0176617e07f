/- Build refuses: lists that are not in order, points that may not be, and too many. -/
import Derived.Test.YtkomfenjeoaelaaDoorBlockBuildMath
import Derived.Test.YtkomfenjeoaelaaDoorBlockSorted
import Derived.Test.YtkomfenjeoaelaaDoorSampleG
set_option maxRecDepth 20000
set_option linter.unusedSimpArgs false
namespace Go.Proofs.YtkomfenjeoaelaaDoor
open Go.RowKit Go.Proofs.YtkomfenjeoaelaaDoor.Vi Go.Proofs.YtkomfenjeoaelaaDoor.Mk

/-- The error with which Build refuses, 0 where it builds. -/
def bldE (l : List Pt) : Int := if srtB l = true then (if ∀ p ∈ l, p.ok = true then (if 3000 < l.length then 11 else 0) else 1) else 1
theorem bldE_uns {l : List Pt} (h : srtB l = false) : bldE l = 1 := by unfold bldE; rw [if_neg (by simp [h])]
theorem bldE_bad {l : List Pt} {k : Nat} (hk : k < l.length) (h : (l[k]).ok = false) : bldE l = 1 := by
  unfold bldE
  split
  · rw [if_neg (fun g => by rw [g _ (List.getElem_mem hk)] at h; cases h)]
  · rfl
theorem bldE_ok {l : List Pt} (hs : srtB l = true) (h : ∀ j (hj : j < l.length), (l[j]).ok = true) : bldE l = if 3000 < l.length then 11 else 0 := by
  unfold bldE
  rw [if_pos hs, if_pos (fun p hp => by obtain ⟨j, hj, rfl⟩ := List.getElem_of_mem hp; exact h j hj)]

set_option maxHeartbeats 4000000 in
theorem build_uns (a0 : Option Addr) (c0 : Nat) (l : List Pt) (w : World) (hS : Lst w w.heap.size a0 c0 l) (hl : l.length ≤ 900000) (hs : srtB l = false) : Calls Tryd.prog 27 #[.slice a0 l.length c0] w fun e w' => e = .returned (.tuple #[.string ⟨#[]⟩, .int .i64 1]) ∧ Below w.heap.size w w' := by
  have ks := psorted_is a0 c0 l w hS (by omega)
  rw [hs] at ks
  clear hS hs
  go_enter Tryd.func27, Tryd.ntmps27
  go_wp2_with (go_at_call 16; (with_reducible refine ks.mono ?_); rintro e w1 ⟨rfl, hb1⟩)
  go_ret2
  exact ⟨rfl, hb1⟩

set_option maxHeartbeats 8000000 in
theorem build_no (a0 : Option Addr) (c0 : Nat) (l : List Pt) (w : World) (hS : Lst w w.heap.size a0 c0 l) (hl : l.length ≤ 900000) (hn : ∀ p ∈ l, p.s.size ≤ 100000) (hs : srtB l = true) (hE : bldE l ≠ 0) : Calls Tryd.prog 27 #[.slice a0 l.length c0] w fun e w' => e = .returned (.tuple #[.string ⟨#[]⟩, .int .i64 (bldE l)]) ∧ Below w.heap.size w w' := by
  have ks := psorted_is a0 c0 l w hS (by omega)
  rw [hs] at ks
  have HS := Lib.hid hS
  have HF := Lib.hid hn
  have HSO := Lib.hid hs
  have HE := Lib.hid hE
  clear hS hn hs hE
  go_enter Tryd.func27, Tryd.ntmps27
  go_wp2_with (go_at_call 16; (with_reducible refine ks.mono ?_); rintro e w1 ⟨rfl, hb1⟩)
  go_loopw [21] (fun i wr => ∃ (k : Nat), k ≤ l.length ∧ i = .int .i64 (k : Int) ∧ Below w.heap.size w wr ∧ Hid (∀ j (hj : j < l.length), j < k → (l[j]).ok = true)) (fun i _ => l.length - (intOf i).toNat)
  case atStart => exact ⟨0, by omega, rfl, hb1, Lib.hid fun j _ hj => absurd hj (Nat.not_lt_zero _)⟩
  case round =>
    obtain ⟨k, hk, rfl, hB, hall⟩ := hrel
    clear hb1
    by_cases hlt : k < l.length
    · have hlti : (k : Int) < (l.length : Int) := by omega
      rcases HS.out.pts.at_ with rfl | ⟨b, off, rfl, hbw, hc⟩
      · simp at hlt
      · have hA := (hc k hlt).below hB hbw
        have hf := HF.out _ (List.getElem_mem hlt)
        have HNO := Lib.hid (fun (h : (l[k]).ok = false) => bldE_bad hlt h)
        have HGO := Lib.hid (fun (h : (l[k]).ok = true) => show ∀ j (hj : j < l.length), j < k + 1 → (l[j]).ok = true from fun j hj hjk => by
          by_cases e : j = k
          · subst e; exact h
          · exact hall.out j hj (by omega))
        obtain ⟨p, hp⟩ : ∃ p, l[k] = p := ⟨_, rfl⟩
        rw [hp] at hA hf HNO HGO
        obtain ⟨x0, x1, x2, x3, x4, x5⟩ := hA
        have kc := fun w => checkp_is p w (by omega)
        unfold Pt.err at kc
        unfold ptV at kc
        have HBH := Lib.hid hB
        clear hc hp hall hB hf
        cases hok : p.ok with
        | true =>
          have HH := Lib.hid (HGO.out hok)
          rw [hok] at kc
          clear HGO HNO hok
          go_wp2_with (go_at_call 45; (with_reducible refine (kc _).mono ?_); rintro e w1 ⟨rfl, hb1⟩)
          go_roundw
          case rel => exact ⟨k + 1, by omega, by go_num, HBH.out.trans ((((Below.refl wr.heap.size wr).alloc (Nat.le_refl _) _).trans (hb1.mono (by simp))).mono HBH.out.size), HH⟩
          case measure => simp [intOf]; omega
        | false =>
          have HH := Lib.hid (HNO.out hok)
          rw [hok] at kc
          clear HGO HNO hok
          go_wp2_with (go_at_call 45; (with_reducible refine (kc _).mono ?_); rintro e w1 ⟨rfl, hb1⟩)
          go_ret2
          exact ⟨by rw [HH.out]; rfl, HBH.out.trans ((((Below.refl wr.heap.size wr).alloc (Nat.le_refl _) _).trans (hb1.mono (by simp))).mono HBH.out.size)⟩
    · have hlti : ¬ (k : Int) < (l.length : Int) := by omega
      have he := bldE_ok HSO.out (fun j hj => hall.out j hj (by omega))
      have HBH := Lib.hid hB
      clear hB hall
      by_cases hn : 3000 < l.length
      · have hni : (3000 : Int) < (l.length : Int) := by omega
        rw [if_pos hn] at he
        have HH := Lib.hid he
        clear he
        go_wp2
        go_ret2
        exact ⟨by rw [HH.out]; rfl, HBH.out⟩
      · rw [if_neg hn] at he
        exact absurd he HE.out

end Go.Proofs.YtkomfenjeoaelaaDoor
