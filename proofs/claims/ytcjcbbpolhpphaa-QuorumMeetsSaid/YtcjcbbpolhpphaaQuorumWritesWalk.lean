/- QuorumWrites. -/
import Derived.Test.YtcjcbbpolhpphaaQuAwake
import Derived.Test.YtcjcbbpolhpphaaQuArgs
set_option maxRecDepth 20000
set_option linter.unusedSimpArgs false
set_option linter.unusedVariables false
namespace Go.Proofs.Ytcjcbbpolhpphaa.Qu
open Go.RowKit Go.Proofs.Ytcjcbbpolhpphaa.Vi

theorem ans_S (R : RS) (n : Int) (l : List Pt) : (ansS R n l).S = hearS R.S n := by
  unfold ansS
  by_cases hy : hearB R.S n = true
  · rw [if_pos hy]
  · rw [if_neg hy]; unfold hearS; rw [if_neg hy]
theorem sameL_self (l : List Int) : sameL l l = true := by unfold sameL; simp
theorem rep_ns {w : World} {B : Nat} {v : Value} {p : Int → Bool} (h : IRow w B v (pickL p)) : Ns w v (pickL p) := h.ns (pick_ok p) (by have := pick_16 p; omega)
/-- The write and the document's read, side by side. -/
structure LS (w0 W : World) (bw d B : Nat) (R : RS) : Prop where
  wat : WAt W bw 64 R.S
  dat : DAt W B d R
  bel : Below w0.heap.size w0 W
  hB : B ≤ W.heap.size
  lo : w0.heap.size ≤ B
  low : w0.heap.size ≤ bw
theorem LS.later {w0 W W' : World} {bw d B : Nat} {R : RS} (h : LS w0 W bw d B R) (k : Below W.heap.size W W') : LS w0 W' bw d B R :=
  ⟨h.wat.later k, h.dat.later k, bel_next h.bel k, Nat.le_trans h.hB k.size, h.lo, h.low⟩
/-- The write has heard of a node. -/
structure LM (w0 W : World) (bw d B : Nat) (n : Int) (R : RS) : Prop where
  wat : WAt W bw 64 (hearS R.S n)
  dat : DAt W B d R
  bel : Below w0.heap.size w0 W
  hB : B ≤ W.heap.size
  lo : w0.heap.size ≤ B
  low : w0.heap.size ≤ bw
theorem LS.ack {w0 W : World} {bw d B : Nat} {R : RS} (h : LS w0 W bw d B R) (n : Int) : LM w0 (hearW W bw R.S n) bw d B n R :=
  ⟨h.wat.hear n, h.dat.beside_w h.wat n, h.bel.trans (hearW_below h.low n), by rw [hearW_size]; exact h.hB, h.lo, h.low⟩
theorem LM.ans {w0 W W' : World} {bw d B : Nat} {n : Int} {R : RS} {l : List Pt} (h : LM w0 W bw d B n R) (hd : DAt W' B d (ansS R n l)) (k : ButP (fun g => g = d) W W') : LS w0 W' bw d B (ansS R n l) :=
  ⟨by rw [ans_S]; exact h.wat.beside_d h.dat k, hd, h.bel.trans ((k.below (fun g hg => by subst hg; exact h.dat.lo) h.hB).mono h.lo), Nat.le_trans h.hB k.size, h.lo, h.low⟩
namespace quorumWrites
set_option maxHeartbeats 16000000 in
theorem walk (need : Int) (na : Option Addr) (nl nc : Nat) (aa : Option Addr) (al ac : Nat) (w : World) (hok : -9223372036854775808 ≤ need ∧ need ≤ 9223372036854775807) (hnod : ArgInts w na nl nc) (hack : ArgInts w aa al ac) : Calls Try.prog 3 #[.int .i64 need, .slice na nl nc, .slice aa al ac] w fun e w' => e = .returned (.bool true) ∧ Below w.heap.size w w' := by
  obtain ⟨acks, hacks, -⟩ := ns_of_args hack
  have hal : acks.length = al := by
    obtain ⟨a, c, e⟩ := hacks.slice
    injection e with _ e _; exact e.symm
  have hasz := hacks.size
  rw [hal] at hasz
  have HACK := Lib.hid hacks
  have HAL := Lib.hid hal
  have ka := awake_is w
  have HNOD := Lib.hid hnod
  have HOK := Lib.hid hok
  clear hacks hal hack hnod hok
  go_enter Try.func3, Try.ntmps3
  go_upto_region 2 with (go_at_call 8; (with_reducible refine ka.mono ?_); rintro e w1 ⟨rfl, hb1⟩; (have HB1 := Lib.hid hb1); clear hb1)
  go_upto_region 3 with (go_at_call 9; (have kk := few2_is HNOD.out w1 HB1.out); (with_reducible refine kk.mono ?_); rintro e w2 ⟨A, a2, n2, c2, rfl, hA, hA12, hNA, rfl⟩; (have HNA := Lib.hid hNA); clear kk hA hNA)
  go_upto_region 4 with (go_at_call 10; (have kk := newW_at need _ _ _ HNA.out HOK.out); (with_reducible refine kk.mono ?_); rintro e w3 ⟨bw, rfl, hW, hlo, hb3⟩; (have HW := Lib.hid hW); (have HB3 := Lib.hid (bel_next HB1.out hb3)); (have HNA3 := Lib.hid (Ns.later HNA.out hb3)); (have HLO := Lib.hid (Nat.le_trans HB1.out.size hlo)); clear kk hW hlo hb3)
  go_upto_region 7 with (go_at_call 11; (have kk := rnew_is need _ _ _ HNA3.out HOK.out); (with_reducible refine kk.mono ?_); rintro e w4 ⟨d, rfl, hD, hb4⟩; (have HL4 := Lib.hid (show LS w w4 bw d w3.heap.size (newR need A) from ⟨HW.out.later hb4, hD, bel_next HB3.out hb4, hb4.size, HB3.out.size, HLO.out⟩)); clear kk hD hb4)
  clear HW HB3 HNA3 HNA
  generalize w3.heap.size = B at HL4
  go_wp2
  go_loopw [11] (fun i wr => ∃ (k : Nat) (R : RS), k ≤ al ∧ k ≤ 20 ∧ i = .int .i64 (k : Int) ∧ Hid (LS w wr bw d B R)) (fun i _ => al - (intOf i).toNat)
  case atStart => exact ⟨0, newR need A, by omega, by omega, rfl, HL4⟩
  case round =>
    obtain ⟨k, R, hk, hk20, rfl, HL⟩ := hrel
    clear HL4
    obtain ⟨w5, hw5⟩ : ∃ w5, w5 = wr := ⟨_, rfl⟩
    subst hw5
    by_cases hgo : k < al ∧ k < 20
    · obtain ⟨g1, g2⟩ := hgo
      have hi1 : (k : Int) < (al : Int) := by omega
      have hi2 : (k : Int) < 20 := by omega
      have hkl : k < acks.length := by rw [HAL.out]; exact g1
      obtain ⟨-, ab, off, rfl, hc⟩ := HACK.out.cell (by omega)
      have hc0 := hc k hkl
      have hab := World.block_lt_of_cell? w _ hc0
      obtain ⟨x, hx⟩ : ∃ x, acks[k] = x := ⟨_, rfl⟩
      rw [hx] at hc0
      have HC := Lib.hid hc0
      have hc1 := (HL.out.bel.cell (p := ⟨ab, off + k, none⟩) hab).trans HC.out
      obtain ⟨z, hz⟩ : ∃ z, hearB R.S x = z := ⟨_, rfl⟩
      have HZ := Lib.hid hz
      have hst : w5.drew.cell? ⟨ab, off + k, none⟩ = some (.int .i64 x) := hc1
      have HD := Lib.hid (HL.out.later (Below.refl _ _).drew)
      clear hc hx hc0 hz hkl
      cases z with
      | false =>
        go_wp2_with fail
        refine wp_region_held_drew (S := (fun X => X.cell? ⟨ab, off + k, none⟩ = some (.int .i64 x))) (by kernel_rfl) hst (fun hHeld => ?_)
        refine wpAnyH_take (i := 0) (oi := ?a01o) (v := ?a01v) ?a01h (by kernel_rfl) (by kernel_rfl) (by kernel_rfl) ?a01q ?a01y hHeld ?a01r
        case a01h => (simp only [List.getElem?_toArray, List.getElem?_cons_zero]; rfl)
        case a01q => exact fun _ _ _ h => h
        case a01y => (refine Or.inl ⟨by first | kernel_rfl | rfl, ?_⟩; intro w hSw; (try dsimp only at hSw); have y1 := hSw; go_simp <;> (try with_reducible rfl))
        try simp only [Act.put, List.setIfInBounds_toArray, List.set_cons_zero, List.set_cons_succ]
        refine wpAnyH_take (i := 1) (oi := ?a02o) (v := ?a02v) ?a02h (by kernel_rfl) (by kernel_rfl) (by kernel_rfl) ?a02q ?a02y hHeld ?a02r
        case a02h => (simp only [List.getElem?_toArray, List.getElem?_cons_succ, List.getElem?_cons_zero]; rfl)
        case a02q => exact fun _ _ _ h => h
        case a02y => (refine Or.inl ⟨by first | kernel_rfl | rfl, ?_⟩; intro w hSw; (try dsimp only at hSw); have y1 := hSw; go_simp <;> (try with_reducible rfl))
        try simp only [Act.put, List.setIfInBounds_toArray, List.set_cons_zero, List.set_cons_succ]
        refine wpAnyH_take (i := 2) (oi := ?a03o) (v := ?a03v) ?a03h (by kernel_rfl) (by kernel_rfl) (by kernel_rfl) ?a03q ?a03y hHeld ?a03r
        case a03h => (simp only [List.getElem?_toArray, List.getElem?_cons_succ, List.getElem?_cons_zero]; rfl)
        case a03q => exact fun _ _ _ h => h
        case a03y => (refine Or.inl ⟨by first | kernel_rfl | rfl, ?_⟩; intro w hSw; (try dsimp only at hSw); have y1 := hSw; go_simp <;> (try with_reducible rfl))
        try simp only [Act.put, List.setIfInBounds_toArray, List.set_cons_zero, List.set_cons_succ]
        refine wpAnyH_take (i := 3) (oi := ?a04o) (v := ?a04v) ?a04h (by kernel_rfl) (by kernel_rfl) (by kernel_rfl) ?a04q ?a04y hHeld ?a04r
        case a04h => (simp only [List.getElem?_toArray, List.getElem?_cons_succ, List.getElem?_cons_zero]; rfl)
        case a04q => exact fun _ _ _ h => h
        case a04y => (refine Or.inl ⟨by first | kernel_rfl | rfl, ?_⟩; intro w hSw; (try dsimp only at hSw); have y1 := hSw; go_simp <;> (try with_reducible rfl))
        try simp only [Act.put, List.setIfInBounds_toArray, List.set_cons_zero, List.set_cons_succ]
        refine wpAnyH_take (i := 4) (oi := ?a05o) (v := ?a05v) ?a05h (by kernel_rfl) (by kernel_rfl) (by kernel_rfl) ?a05q ?a05y hHeld ?a05r
        case a05h => (simp only [List.getElem?_toArray, List.getElem?_cons_succ, List.getElem?_cons_zero]; rfl)
        case a05q => exact fun _ _ _ h => h
        case a05y => (refine Or.inl ⟨by first | kernel_rfl | rfl, ?_⟩; intro w hSw; (try dsimp only at hSw); have y1 := hSw; go_simp <;> (try with_reducible rfl))
        try simp only [Act.put, List.setIfInBounds_toArray, List.set_cons_zero, List.set_cons_succ]
        refine wpAnyH_take (i := 6) (oi := ?a06o) (v := ?a06v) ?a06h (by kernel_rfl) (by kernel_rfl) (by kernel_rfl) ?a06q ?a06y hHeld ?a06r
        case a06h => (simp only [List.getElem?_toArray, List.getElem?_cons_succ, List.getElem?_cons_zero]; rfl)
        case a06q => exact fun _ _ _ h => h
        case a06y => (refine Or.inl ⟨by first | kernel_rfl | rfl, ?_⟩; intro w hSw; (try dsimp only at hSw); have y1 := hSw; go_simp <;> (try with_reducible rfl))
        try simp only [Act.put, List.setIfInBounds_toArray, List.set_cons_zero, List.set_cons_succ]
        refine wpAnyH_take (i := 7) (oi := ?a07o) (v := ?a07v) ?a07h (by kernel_rfl) (by kernel_rfl) (by kernel_rfl) ?a07q ?a07y hHeld ?a07r
        case a07h => (simp only [List.getElem?_toArray, List.getElem?_cons_succ, List.getElem?_cons_zero]; rfl)
        case a07q => exact fun _ _ _ h => h
        case a07y => (refine Or.inl ⟨by first | kernel_rfl | rfl, ?_⟩; intro w hSw; (try dsimp only at hSw); have y1 := hSw; go_simp <;> (try with_reducible rfl))
        try simp only [Act.put, List.setIfInBounds_toArray, List.set_cons_zero, List.set_cons_succ]
        refine wpAnyH_take (i := 8) (oi := ?a08o) (v := ?a08v) ?a08h (by kernel_rfl) (by kernel_rfl) (by kernel_rfl) ?a08q ?a08y hHeld ?a08r
        case a08h => (simp only [List.getElem?_toArray, List.getElem?_cons_succ, List.getElem?_cons_zero]; rfl)
        case a08q => exact fun _ _ _ h => h
        case a08y => (refine Or.inl ⟨by first | kernel_rfl | rfl, ?_⟩; intro w hSw; (try dsimp only at hSw); have y1 := hSw; go_simp <;> (try with_reducible rfl))
        try simp only [Act.put, List.setIfInBounds_toArray, List.set_cons_zero, List.set_cons_succ]
        refine wpAnyH_take (i := 9) (oi := ?a09o) (v := ?a09v) ?a09h (by kernel_rfl) (by kernel_rfl) (by kernel_rfl) ?a09q ?a09y hHeld ?a09r
        case a09h => (simp only [List.getElem?_toArray, List.getElem?_cons_succ, List.getElem?_cons_zero]; rfl)
        case a09q => exact fun _ _ _ h => h
        case a09y => (refine Or.inl ⟨by first | kernel_rfl | rfl, ?_⟩; intro w hSw; (try dsimp only at hSw); have y1 := hSw; go_simp <;> (try with_reducible rfl))
        try simp only [Act.put, List.setIfInBounds_toArray, List.set_cons_zero, List.set_cons_succ]
        refine wpAnyH_take (i := 10) (oi := ?a010o) (v := ?a010v) ?a010h (by kernel_rfl) (by kernel_rfl) (by kernel_rfl) ?a010q ?a010y hHeld ?a010r
        case a010h => (simp only [List.getElem?_toArray, List.getElem?_cons_succ, List.getElem?_cons_zero]; rfl)
        case a010q => exact fun _ _ _ h => h
        case a010y => (refine Or.inl ⟨by first | kernel_rfl | rfl, ?_⟩; intro w hSw; (try dsimp only at hSw); have y1 := hSw; go_simp <;> (try with_reducible rfl))
        try simp only [Act.put, List.setIfInBounds_toArray, List.set_cons_zero, List.set_cons_succ]
        refine wpAnyH_ready (rs := [5]) (by kernel_rfl) (by simp) ?_
        refine (AllReadyH.cons rfl (fun K hK => ?_) AllReadyH.nil)
        go_simp
        (go_at_call 12; (have kk := ack_is x HD.out.wat); (rw [HZ.out] at kk); (with_reducible refine kk.mono ?_); rintro e w6 ⟨rfl, hw6⟩; (have HM6 := Lib.hid (show LM w w6 bw d B x R by rw [hw6]; exact HD.out.ack x)); (have hc6 := (HM6.out.bel.cell (p := ⟨ab, off + k, none⟩) hab).trans HC.out); clear kk hw6)
        refine hK.out _ _ (hc6) (fun hHeld => ?_)
        clear hK K
        try simp only [Act.put, List.setIfInBounds_toArray, List.set_cons_zero, List.set_cons_succ]
        refine wpAnyH_ready (rs := [11]) (by kernel_rfl) (by simp) ?_
        refine (AllReadyH.cons rfl (fun K hK => ?_) AllReadyH.nil)
        go_simp
        (go_at_call 13; (have kk := rans_is x none 0 [] HM6.out.dat HM6.out.hB ⟨⟨Or.inl rfl⟩, Nat.le_refl _, fun _ => rfl⟩ (by decide)); (simp only [List.length_nil] at kk); (with_reducible refine kk.mono ?_); rintro e w7 ⟨he, hD7, hf7⟩; (rw [HZ.out] at he); subst he; (have HL7 := Lib.hid (HM6.out.ans hD7 hf7)); (have hc7 := (HL7.out.bel.cell (p := ⟨ab, off + k, none⟩) hab).trans HC.out); clear kk hD7 hf7)
        refine hK.out _ _ (hc7) (fun hHeld => ?_)
        clear hK K
        try simp only [Act.put, List.setIfInBounds_toArray, List.set_cons_zero, List.set_cons_succ]
        refine wpAnyH_take (i := 12) (oi := ?a011o) (v := ?a011v) ?a011h (by kernel_rfl) (by kernel_rfl) (by kernel_rfl) ?a011q ?a011y hHeld ?a011r
        case a011h => (simp only [List.getElem?_toArray, List.getElem?_cons_succ, List.getElem?_cons_zero]; rfl)
        case a011q => exact fun _ _ _ h => h
        case a011y => (refine Or.inl ⟨by first | kernel_rfl | rfl, ?_⟩; intro w hSw; (try dsimp only at hSw); have y1 := hSw; go_simp <;> (try with_reducible rfl))
        try simp only [Act.put, List.setIfInBounds_toArray, List.set_cons_zero, List.set_cons_succ]
        refine wpAnyH_done (by kernel_rfl) ?_ _
        clear HM6 HD hc7 hc6 hst hc1
        generalize ansS R x [] = R7 at HL7
        go_upto_region 13 with (first
          | (go_at_call 15; (have kk := whave_is HL7.out.wat); (with_reducible refine kk.mono ?_); rintro e w1a ⟨v1, rfl, hRa, hba⟩; (obtain ⟨aa1, ca1, rfl⟩ := hRa.slice); (have HRA1 := Lib.hid hRa); (have HLA1 := Lib.hid (HL7.out.later hba)); clear kk hRa hba)
          | (go_at_call 16; (have kk := rhav_is true HLA1.out.dat); (rw [both_yes] at kk); (with_reducible refine kk.mono ?_); rintro e w1b ⟨v1b, rfl, hRb, hbb⟩; (obtain ⟨ab1, cb1, rfl⟩ := hRb.slice); (have HRB1 := Lib.hid hRb); (have HRA1b := Lib.hid (IRow.later HRA1.out hbb)); (have HLB1 := Lib.hid (HLA1.out.later hbb)); clear kk hRb hbb)
          | (go_at_call 14; (have kk := rsame_is _ _ _ _ _ _ _ (rep_ns HRA1b.out) (rep_ns HRB1.out)); (rw [sameL_self] at kk); (with_reducible refine kk.mono ?_); rintro e w1c ⟨rfl, hbc⟩; (have HL8 := Lib.hid (HLB1.out.later hbc)); clear kk hbc HRA1 HRB1 HRA1b HLA1 HLB1))
        go_upto_region 14 with (first
          | (go_at_call 17; (have kk := wmissing_is HL8.out.wat); (with_reducible refine kk.mono ?_); rintro e w2a ⟨v2, rfl, hRa, hba⟩; (obtain ⟨aa2, ca2, rfl⟩ := hRa.slice); (have HRA2 := Lib.hid hRa); (have HLA2 := Lib.hid (HL8.out.later hba)); clear kk hRa hba)
          | (go_at_call 16; (have kk := rhav_is false HLA2.out.dat); (rw [both_no] at kk); (with_reducible refine kk.mono ?_); rintro e w2b ⟨v2b, rfl, hRb, hbb⟩; (obtain ⟨ab2, cb2, rfl⟩ := hRb.slice); (have HRB2 := Lib.hid hRb); (have HRA2b := Lib.hid (IRow.later HRA2.out hbb)); (have HLB2 := Lib.hid (HLA2.out.later hbb)); clear kk hRb hbb)
          | (go_at_call 14; (have kk := rsame_is _ _ _ _ _ _ _ (rep_ns HRA2b.out) (rep_ns HRB2.out)); (rw [sameL_self] at kk); (with_reducible refine kk.mono ?_); rintro e w2c ⟨rfl, hbc⟩; (have HL9 := Lib.hid (HLB2.out.later hbc)); clear kk hbc HRA2 HRB2 HRA2b HLA2 HLB2))
        obtain ⟨m, hm⟩ : ∃ m, max R7.S.need 1 = m := ⟨_, rfl⟩
        have HMX := Lib.hid hm
        obtain ⟨n, hn⟩ : ∃ n, (repL R7.S).length = n := ⟨_, rfl⟩
        have HN := Lib.hid hn
        have HL10 := Lib.hid (HL9.out.later (Below.refl _ _).drew)
        have hne := HL10.out.dat.need
        rw [hm] at hne
        clear hm hn
        by_cases hd : m ≤ (n : Int)
        · have HDN := Lib.hid (show doneB R7.S = true by unfold doneB; rw [HMX.out, HN.out]; exact decide_eq_true hd)
          refine wp_region_held_drew (S := (fun X => X.cell? ⟨d, 0, none⟩ = some (.int .i64 m))) (by kernel_rfl) hne (fun hHeld => ?_)
          refine wpAnyH_take (i := 0) (oi := ?b01o) (v := ?b01v) ?b01h (by kernel_rfl) (by kernel_rfl) (by kernel_rfl) ?b01q ?b01y hHeld ?b01r
          case b01h => (simp only [List.getElem?_toArray, List.getElem?_cons_zero]; rfl)
          case b01q => exact fun _ _ _ h => h
          case b01y => (refine Or.inl ⟨by first | kernel_rfl | rfl, ?_⟩; intro w hSw; (try dsimp only at hSw); have y1 := hSw; go_simp <;> (try with_reducible rfl))
          try simp only [Act.put, List.setIfInBounds_toArray, List.set_cons_zero, List.set_cons_succ]
          refine wpAnyH_take (i := 1) (oi := ?b02o) (v := ?b02v) ?b02h (by kernel_rfl) (by kernel_rfl) (by kernel_rfl) ?b02q ?b02y hHeld ?b02r
          case b02h => (simp only [List.getElem?_toArray, List.getElem?_cons_succ, List.getElem?_cons_zero]; rfl)
          case b02q => exact fun _ _ _ h => h
          case b02y => (refine Or.inl ⟨by first | kernel_rfl | rfl, ?_⟩; intro w hSw; (try dsimp only at hSw); have y1 := hSw; go_simp <;> (try with_reducible rfl))
          try simp only [Act.put, List.setIfInBounds_toArray, List.set_cons_zero, List.set_cons_succ]
          refine wpAnyH_take (i := 2) (oi := ?b03o) (v := ?b03v) ?b03h (by kernel_rfl) (by kernel_rfl) (by kernel_rfl) ?b03q ?b03y hHeld ?b03r
          case b03h => (simp only [List.getElem?_toArray, List.getElem?_cons_succ, List.getElem?_cons_zero]; rfl)
          case b03q => exact fun _ _ _ h => h
          case b03y => (refine Or.inl ⟨by first | kernel_rfl | rfl, ?_⟩; intro w hSw; (try dsimp only at hSw); have y1 := hSw; go_simp <;> (try with_reducible rfl))
          try simp only [Act.put, List.setIfInBounds_toArray, List.set_cons_zero, List.set_cons_succ]
          refine wpAnyH_take (i := 3) (oi := ?b04o) (v := ?b04v) ?b04h (by kernel_rfl) (by kernel_rfl) (by kernel_rfl) ?b04q ?b04y hHeld ?b04r
          case b04h => (simp only [List.getElem?_toArray, List.getElem?_cons_succ, List.getElem?_cons_zero]; rfl)
          case b04q => exact fun _ _ _ h => h
          case b04y => (refine Or.inl ⟨by first | kernel_rfl | rfl, ?_⟩; intro w hSw; (try dsimp only at hSw); have y1 := hSw; go_simp <;> (try with_reducible rfl))
          try simp only [Act.put, List.setIfInBounds_toArray, List.set_cons_zero, List.set_cons_succ]
          refine wpAnyH_take (i := 4) (oi := ?b05o) (v := ?b05v) ?b05h (by kernel_rfl) (by kernel_rfl) (by kernel_rfl) ?b05q ?b05y hHeld ?b05r
          case b05h => (simp only [List.getElem?_toArray, List.getElem?_cons_succ, List.getElem?_cons_zero]; rfl)
          case b05q => exact fun _ _ _ h => h
          case b05y => (refine Or.inl ⟨by first | kernel_rfl | rfl, ?_⟩; intro w hSw; (try dsimp only at hSw); have y1 := hSw; go_simp <;> (try with_reducible rfl))
          try simp only [Act.put, List.setIfInBounds_toArray, List.set_cons_zero, List.set_cons_succ]
          refine wpAnyH_take (i := 5) (oi := ?b06o) (v := ?b06v) ?b06h (by kernel_rfl) (by kernel_rfl) (by kernel_rfl) ?b06q ?b06y hHeld ?b06r
          case b06h => (simp only [List.getElem?_toArray, List.getElem?_cons_succ, List.getElem?_cons_zero]; rfl)
          case b06q => exact fun _ _ _ h => h
          case b06y => (refine Or.inl ⟨by first | kernel_rfl | rfl, ?_⟩; intro w hSw; (try dsimp only at hSw); have y1 := hSw; go_simp <;> (try with_reducible rfl))
          try simp only [Act.put, List.setIfInBounds_toArray, List.set_cons_zero, List.set_cons_succ]
          refine wpAnyH_take (i := 6) (oi := ?b07o) (v := ?b07v) ?b07h (by kernel_rfl) (by kernel_rfl) (by kernel_rfl) ?b07q ?b07y hHeld ?b07r
          case b07h => (simp only [List.getElem?_toArray, List.getElem?_cons_succ, List.getElem?_cons_zero]; rfl)
          case b07q => exact fun _ _ _ h => h
          case b07y => (refine Or.inl ⟨by first | kernel_rfl | rfl, ?_⟩; intro w hSw; (try dsimp only at hSw); have y1 := hSw; go_simp <;> (try with_reducible rfl))
          try simp only [Act.put, List.setIfInBounds_toArray, List.set_cons_zero, List.set_cons_succ]
          refine wpAnyH_take (i := 7) (oi := ?b08o) (v := ?b08v) ?b08h (by kernel_rfl) (by kernel_rfl) (by kernel_rfl) ?b08q ?b08y hHeld ?b08r
          case b08h => (simp only [List.getElem?_toArray, List.getElem?_cons_succ, List.getElem?_cons_zero]; rfl)
          case b08q => exact fun _ _ _ h => h
          case b08y => (refine Or.inl ⟨by first | kernel_rfl | rfl, ?_⟩; intro w hSw; (try dsimp only at hSw); have y1 := hSw; go_simp <;> (try with_reducible rfl))
          try simp only [Act.put, List.setIfInBounds_toArray, List.set_cons_zero, List.set_cons_succ]
          refine wpAnyH_take (i := 9) (oi := ?b09o) (v := ?b09v) ?b09h (by kernel_rfl) (by kernel_rfl) (by kernel_rfl) ?b09q ?b09y hHeld ?b09r
          case b09h => (simp only [List.getElem?_toArray, List.getElem?_cons_succ, List.getElem?_cons_zero]; rfl)
          case b09q => exact fun _ _ _ h => h
          case b09y => (refine Or.inl ⟨by first | kernel_rfl | rfl, ?_⟩; intro w hSw; (try dsimp only at hSw); have y1 := hSw; go_simp <;> (try with_reducible rfl))
          try simp only [Act.put, List.setIfInBounds_toArray, List.set_cons_zero, List.set_cons_succ]
          refine wpAnyH_take (i := 12) (oi := ?b010o) (v := ?b010v) ?b010h (by kernel_rfl) (by kernel_rfl) (by kernel_rfl) ?b010q ?b010y hHeld ?b010r
          case b010h => (simp only [List.getElem?_toArray, List.getElem?_cons_succ, List.getElem?_cons_zero]; rfl)
          case b010q => exact fun _ _ _ h => h
          case b010y => (refine Or.inl ⟨by first | kernel_rfl | rfl, ?_⟩; intro w hSw; (try dsimp only at hSw); have y1 := hSw; go_simp <;> (try with_reducible rfl))
          try simp only [Act.put, List.setIfInBounds_toArray, List.set_cons_zero, List.set_cons_succ]
          refine wpAnyH_take (i := 13) (oi := ?b011o) (v := ?b011v) ?b011h (by kernel_rfl) (by kernel_rfl) (by kernel_rfl) ?b011q ?b011y hHeld ?b011r
          case b011h => (simp only [List.getElem?_toArray, List.getElem?_cons_succ, List.getElem?_cons_zero]; rfl)
          case b011q => exact fun _ _ _ h => h
          case b011y => (refine Or.inl ⟨by first | kernel_rfl | rfl, ?_⟩; intro w hSw; (try dsimp only at hSw); have y1 := hSw; go_simp <;> (try with_reducible rfl))
          try simp only [Act.put, List.setIfInBounds_toArray, List.set_cons_zero, List.set_cons_succ]
          refine wpAnyH_take (i := 14) (oi := ?b012o) (v := ?b012v) ?b012h (by kernel_rfl) (by kernel_rfl) (by kernel_rfl) ?b012q ?b012y hHeld ?b012r
          case b012h => (simp only [List.getElem?_toArray, List.getElem?_cons_succ, List.getElem?_cons_zero]; rfl)
          case b012q => exact fun _ _ _ h => h
          case b012y => (refine Or.inl ⟨by first | kernel_rfl | rfl, ?_⟩; intro w hSw; (try dsimp only at hSw); have y1 := hSw; go_simp <;> (try with_reducible rfl))
          try simp only [Act.put, List.setIfInBounds_toArray, List.set_cons_zero, List.set_cons_succ]
          refine wpAnyH_take (i := 15) (oi := ?b013o) (v := ?b013v) ?b013h (by kernel_rfl) (by kernel_rfl) (by kernel_rfl) ?b013q ?b013y hHeld ?b013r
          case b013h => (simp only [List.getElem?_toArray, List.getElem?_cons_succ, List.getElem?_cons_zero]; rfl)
          case b013q => exact fun _ _ _ h => h
          case b013y => (refine Or.inl ⟨by first | kernel_rfl | rfl, ?_⟩; intro w hSw; (try dsimp only at hSw); have y1 := hSw; go_simp <;> (try with_reducible rfl))
          try simp only [Act.put, List.setIfInBounds_toArray, List.set_cons_zero, List.set_cons_succ]
          refine wpAnyH_ready (rs := [8]) (by kernel_rfl) (by simp) ?_
          refine (AllReadyH.cons rfl (fun K hK => ?_) AllReadyH.nil)
          go_simp
          (go_at_call 18; (have kk := wdone_is HL10.out.wat); (rw [HDN.out] at kk); (with_reducible refine kk.mono ?_); rintro e w11 ⟨rfl, hb11⟩; (have HL11 := Lib.hid (HL10.out.later hb11)); (have hn11 := HL11.out.dat.need); (rw [HMX.out] at hn11); clear kk hb11)
          refine hK.out _ _ (hn11) (fun hHeld => ?_)
          clear hK K
          try simp only [Act.put, List.setIfInBounds_toArray, List.set_cons_zero, List.set_cons_succ]
          refine wpAnyH_ready (rs := [10]) (by kernel_rfl) (by simp) ?_
          refine (AllReadyH.cons rfl (fun K hK => ?_) AllReadyH.nil)
          go_simp
          (go_at_call 16; (have kk := rhav_is true HL11.out.dat); (rw [both_yes] at kk); (with_reducible refine kk.mono ?_); rintro e w12 ⟨v12, rfl, hR12, hb12⟩; (obtain ⟨a12, c12, rfl⟩ := hR12.slice); (rw [HN.out]); (have HL12 := Lib.hid (HL11.out.later hb12)); (have hn12 := HL12.out.dat.need); (rw [HMX.out] at hn12); clear kk hb12 hR12)
          refine hK.out _ _ (hn12) (fun hHeld => ?_)
          clear hK K
          try simp only [Act.put, List.setIfInBounds_toArray, List.set_cons_zero, List.set_cons_succ]
          refine wpAnyH_take (i := 11) (oi := ?b014o) (v := ?b014v) ?b014h (by kernel_rfl) (by kernel_rfl) (by kernel_rfl) ?b014q ?b014y hHeld ?b014r
          case b014h => (simp only [List.getElem?_toArray, List.getElem?_cons_succ, List.getElem?_cons_zero]; rfl)
          case b014q => exact fun _ _ _ h => h
          case b014y => (refine Or.inl ⟨by first | kernel_rfl | rfl, ?_⟩; intro w hSw; (try dsimp only at hSw); have y1 := hSw; go_simp <;> (try with_reducible rfl))
          try simp only [Act.put, List.setIfInBounds_toArray, List.set_cons_zero, List.set_cons_succ]
          refine wpAnyH_take (i := 16) (oi := ?b015o) (v := ?b015v) ?b015h (by kernel_rfl) (by kernel_rfl) (by kernel_rfl) ?b015q ?b015y hHeld ?b015r
          case b015h => (simp only [List.getElem?_toArray, List.getElem?_cons_succ, List.getElem?_cons_zero]; rfl)
          case b015q => exact fun _ _ _ h => h
          case b015y => (refine Or.inl ⟨by first | kernel_rfl | rfl, ?_⟩; intro w hSw; (try dsimp only at hSw); have y1 := hSw; go_simp <;> (try with_reducible rfl))
          try simp only [Act.put, List.setIfInBounds_toArray, List.set_cons_zero, List.set_cons_succ]
          refine wpAnyH_take (i := 17) (oi := ?b016o) (v := ?b016v) ?b016h (by kernel_rfl) (by kernel_rfl) (by kernel_rfl) ?b016q ?b016y hHeld ?b016r
          case b016h => (simp only [List.getElem?_toArray, List.getElem?_cons_succ, List.getElem?_cons_zero]; rfl)
          case b016q => exact fun _ _ _ h => h
          case b016y => (refine Or.inl ⟨by first | kernel_rfl | rfl, ?_⟩; intro w hSw; (try dsimp only at hSw); have y1 := hSw; go_simp <;> (try with_reducible rfl))
          try simp only [Act.put, List.setIfInBounds_toArray, List.set_cons_zero, List.set_cons_succ]
          refine wpAnyH_take (i := 18) (oi := ?b017o) (v := ?b017v) ?b017h (by kernel_rfl) (by kernel_rfl) (by kernel_rfl) ?b017q ?b017y hHeld ?b017r
          case b017h => (simp only [List.getElem?_toArray, List.getElem?_cons_succ, List.getElem?_cons_zero]; rfl)
          case b017q => exact fun _ _ _ h => h
          case b017y => (refine Or.inl ⟨by first | kernel_rfl | rfl, ?_⟩; intro w hSw; (try dsimp only at hSw); have y1 := hSw; go_simp <;> (try with_reducible rfl))
          try simp only [Act.put, List.setIfInBounds_toArray, List.set_cons_zero, List.set_cons_succ]
          refine wpAnyH_done (by kernel_rfl) ?_ _
          go_wp2
          go_roundw
          case rel => exact ⟨k + 1, R7, by omega, by omega, by go_num, HL12⟩
          case measure => simp [intOf]; omega
        · have HDN := Lib.hid (show doneB R7.S = false by unfold doneB; rw [HMX.out, HN.out]; exact decide_eq_false hd)
          refine wp_region_held_drew (S := (fun X => X.cell? ⟨d, 0, none⟩ = some (.int .i64 m))) (by kernel_rfl) hne (fun hHeld => ?_)
          refine wpAnyH_take (i := 0) (oi := ?b11o) (v := ?b11v) ?b11h (by kernel_rfl) (by kernel_rfl) (by kernel_rfl) ?b11q ?b11y hHeld ?b11r
          case b11h => (simp only [List.getElem?_toArray, List.getElem?_cons_zero]; rfl)
          case b11q => exact fun _ _ _ h => h
          case b11y => (refine Or.inl ⟨by first | kernel_rfl | rfl, ?_⟩; intro w hSw; (try dsimp only at hSw); have y1 := hSw; go_simp <;> (try with_reducible rfl))
          try simp only [Act.put, List.setIfInBounds_toArray, List.set_cons_zero, List.set_cons_succ]
          refine wpAnyH_take (i := 1) (oi := ?b12o) (v := ?b12v) ?b12h (by kernel_rfl) (by kernel_rfl) (by kernel_rfl) ?b12q ?b12y hHeld ?b12r
          case b12h => (simp only [List.getElem?_toArray, List.getElem?_cons_succ, List.getElem?_cons_zero]; rfl)
          case b12q => exact fun _ _ _ h => h
          case b12y => (refine Or.inl ⟨by first | kernel_rfl | rfl, ?_⟩; intro w hSw; (try dsimp only at hSw); have y1 := hSw; go_simp <;> (try with_reducible rfl))
          try simp only [Act.put, List.setIfInBounds_toArray, List.set_cons_zero, List.set_cons_succ]
          refine wpAnyH_take (i := 2) (oi := ?b13o) (v := ?b13v) ?b13h (by kernel_rfl) (by kernel_rfl) (by kernel_rfl) ?b13q ?b13y hHeld ?b13r
          case b13h => (simp only [List.getElem?_toArray, List.getElem?_cons_succ, List.getElem?_cons_zero]; rfl)
          case b13q => exact fun _ _ _ h => h
          case b13y => (refine Or.inl ⟨by first | kernel_rfl | rfl, ?_⟩; intro w hSw; (try dsimp only at hSw); have y1 := hSw; go_simp <;> (try with_reducible rfl))
          try simp only [Act.put, List.setIfInBounds_toArray, List.set_cons_zero, List.set_cons_succ]
          refine wpAnyH_take (i := 3) (oi := ?b14o) (v := ?b14v) ?b14h (by kernel_rfl) (by kernel_rfl) (by kernel_rfl) ?b14q ?b14y hHeld ?b14r
          case b14h => (simp only [List.getElem?_toArray, List.getElem?_cons_succ, List.getElem?_cons_zero]; rfl)
          case b14q => exact fun _ _ _ h => h
          case b14y => (refine Or.inl ⟨by first | kernel_rfl | rfl, ?_⟩; intro w hSw; (try dsimp only at hSw); have y1 := hSw; go_simp <;> (try with_reducible rfl))
          try simp only [Act.put, List.setIfInBounds_toArray, List.set_cons_zero, List.set_cons_succ]
          refine wpAnyH_take (i := 4) (oi := ?b15o) (v := ?b15v) ?b15h (by kernel_rfl) (by kernel_rfl) (by kernel_rfl) ?b15q ?b15y hHeld ?b15r
          case b15h => (simp only [List.getElem?_toArray, List.getElem?_cons_succ, List.getElem?_cons_zero]; rfl)
          case b15q => exact fun _ _ _ h => h
          case b15y => (refine Or.inl ⟨by first | kernel_rfl | rfl, ?_⟩; intro w hSw; (try dsimp only at hSw); have y1 := hSw; go_simp <;> (try with_reducible rfl))
          try simp only [Act.put, List.setIfInBounds_toArray, List.set_cons_zero, List.set_cons_succ]
          refine wpAnyH_take (i := 5) (oi := ?b16o) (v := ?b16v) ?b16h (by kernel_rfl) (by kernel_rfl) (by kernel_rfl) ?b16q ?b16y hHeld ?b16r
          case b16h => (simp only [List.getElem?_toArray, List.getElem?_cons_succ, List.getElem?_cons_zero]; rfl)
          case b16q => exact fun _ _ _ h => h
          case b16y => (refine Or.inl ⟨by first | kernel_rfl | rfl, ?_⟩; intro w hSw; (try dsimp only at hSw); have y1 := hSw; go_simp <;> (try with_reducible rfl))
          try simp only [Act.put, List.setIfInBounds_toArray, List.set_cons_zero, List.set_cons_succ]
          refine wpAnyH_take (i := 6) (oi := ?b17o) (v := ?b17v) ?b17h (by kernel_rfl) (by kernel_rfl) (by kernel_rfl) ?b17q ?b17y hHeld ?b17r
          case b17h => (simp only [List.getElem?_toArray, List.getElem?_cons_succ, List.getElem?_cons_zero]; rfl)
          case b17q => exact fun _ _ _ h => h
          case b17y => (refine Or.inl ⟨by first | kernel_rfl | rfl, ?_⟩; intro w hSw; (try dsimp only at hSw); have y1 := hSw; go_simp <;> (try with_reducible rfl))
          try simp only [Act.put, List.setIfInBounds_toArray, List.set_cons_zero, List.set_cons_succ]
          refine wpAnyH_take (i := 7) (oi := ?b18o) (v := ?b18v) ?b18h (by kernel_rfl) (by kernel_rfl) (by kernel_rfl) ?b18q ?b18y hHeld ?b18r
          case b18h => (simp only [List.getElem?_toArray, List.getElem?_cons_succ, List.getElem?_cons_zero]; rfl)
          case b18q => exact fun _ _ _ h => h
          case b18y => (refine Or.inl ⟨by first | kernel_rfl | rfl, ?_⟩; intro w hSw; (try dsimp only at hSw); have y1 := hSw; go_simp <;> (try with_reducible rfl))
          try simp only [Act.put, List.setIfInBounds_toArray, List.set_cons_zero, List.set_cons_succ]
          refine wpAnyH_take (i := 9) (oi := ?b19o) (v := ?b19v) ?b19h (by kernel_rfl) (by kernel_rfl) (by kernel_rfl) ?b19q ?b19y hHeld ?b19r
          case b19h => (simp only [List.getElem?_toArray, List.getElem?_cons_succ, List.getElem?_cons_zero]; rfl)
          case b19q => exact fun _ _ _ h => h
          case b19y => (refine Or.inl ⟨by first | kernel_rfl | rfl, ?_⟩; intro w hSw; (try dsimp only at hSw); have y1 := hSw; go_simp <;> (try with_reducible rfl))
          try simp only [Act.put, List.setIfInBounds_toArray, List.set_cons_zero, List.set_cons_succ]
          refine wpAnyH_take (i := 12) (oi := ?b110o) (v := ?b110v) ?b110h (by kernel_rfl) (by kernel_rfl) (by kernel_rfl) ?b110q ?b110y hHeld ?b110r
          case b110h => (simp only [List.getElem?_toArray, List.getElem?_cons_succ, List.getElem?_cons_zero]; rfl)
          case b110q => exact fun _ _ _ h => h
          case b110y => (refine Or.inl ⟨by first | kernel_rfl | rfl, ?_⟩; intro w hSw; (try dsimp only at hSw); have y1 := hSw; go_simp <;> (try with_reducible rfl))
          try simp only [Act.put, List.setIfInBounds_toArray, List.set_cons_zero, List.set_cons_succ]
          refine wpAnyH_take (i := 13) (oi := ?b111o) (v := ?b111v) ?b111h (by kernel_rfl) (by kernel_rfl) (by kernel_rfl) ?b111q ?b111y hHeld ?b111r
          case b111h => (simp only [List.getElem?_toArray, List.getElem?_cons_succ, List.getElem?_cons_zero]; rfl)
          case b111q => exact fun _ _ _ h => h
          case b111y => (refine Or.inl ⟨by first | kernel_rfl | rfl, ?_⟩; intro w hSw; (try dsimp only at hSw); have y1 := hSw; go_simp <;> (try with_reducible rfl))
          try simp only [Act.put, List.setIfInBounds_toArray, List.set_cons_zero, List.set_cons_succ]
          refine wpAnyH_take (i := 14) (oi := ?b112o) (v := ?b112v) ?b112h (by kernel_rfl) (by kernel_rfl) (by kernel_rfl) ?b112q ?b112y hHeld ?b112r
          case b112h => (simp only [List.getElem?_toArray, List.getElem?_cons_succ, List.getElem?_cons_zero]; rfl)
          case b112q => exact fun _ _ _ h => h
          case b112y => (refine Or.inl ⟨by first | kernel_rfl | rfl, ?_⟩; intro w hSw; (try dsimp only at hSw); have y1 := hSw; go_simp <;> (try with_reducible rfl))
          try simp only [Act.put, List.setIfInBounds_toArray, List.set_cons_zero, List.set_cons_succ]
          refine wpAnyH_take (i := 15) (oi := ?b113o) (v := ?b113v) ?b113h (by kernel_rfl) (by kernel_rfl) (by kernel_rfl) ?b113q ?b113y hHeld ?b113r
          case b113h => (simp only [List.getElem?_toArray, List.getElem?_cons_succ, List.getElem?_cons_zero]; rfl)
          case b113q => exact fun _ _ _ h => h
          case b113y => (refine Or.inl ⟨by first | kernel_rfl | rfl, ?_⟩; intro w hSw; (try dsimp only at hSw); have y1 := hSw; go_simp <;> (try with_reducible rfl))
          try simp only [Act.put, List.setIfInBounds_toArray, List.set_cons_zero, List.set_cons_succ]
          refine wpAnyH_ready (rs := [8]) (by kernel_rfl) (by simp) ?_
          refine (AllReadyH.cons rfl (fun K hK => ?_) AllReadyH.nil)
          go_simp
          (go_at_call 18; (have kk := wdone_is HL10.out.wat); (rw [HDN.out] at kk); (with_reducible refine kk.mono ?_); rintro e w11 ⟨rfl, hb11⟩; (have HL11 := Lib.hid (HL10.out.later hb11)); (have hn11 := HL11.out.dat.need); (rw [HMX.out] at hn11); clear kk hb11)
          refine hK.out _ _ (hn11) (fun hHeld => ?_)
          clear hK K
          try simp only [Act.put, List.setIfInBounds_toArray, List.set_cons_zero, List.set_cons_succ]
          refine wpAnyH_ready (rs := [10]) (by kernel_rfl) (by simp) ?_
          refine (AllReadyH.cons rfl (fun K hK => ?_) AllReadyH.nil)
          go_simp
          (go_at_call 16; (have kk := rhav_is true HL11.out.dat); (rw [both_yes] at kk); (with_reducible refine kk.mono ?_); rintro e w12 ⟨v12, rfl, hR12, hb12⟩; (obtain ⟨a12, c12, rfl⟩ := hR12.slice); (rw [HN.out]); (have HL12 := Lib.hid (HL11.out.later hb12)); (have hn12 := HL12.out.dat.need); (rw [HMX.out] at hn12); clear kk hb12 hR12)
          refine hK.out _ _ (hn12) (fun hHeld => ?_)
          clear hK K
          try simp only [Act.put, List.setIfInBounds_toArray, List.set_cons_zero, List.set_cons_succ]
          refine wpAnyH_take (i := 11) (oi := ?b114o) (v := ?b114v) ?b114h (by kernel_rfl) (by kernel_rfl) (by kernel_rfl) ?b114q ?b114y hHeld ?b114r
          case b114h => (simp only [List.getElem?_toArray, List.getElem?_cons_succ, List.getElem?_cons_zero]; rfl)
          case b114q => exact fun _ _ _ h => h
          case b114y => (refine Or.inl ⟨by first | kernel_rfl | rfl, ?_⟩; intro w hSw; (try dsimp only at hSw); have y1 := hSw; go_simp <;> (try with_reducible rfl))
          try simp only [Act.put, List.setIfInBounds_toArray, List.set_cons_zero, List.set_cons_succ]
          refine wpAnyH_take (i := 16) (oi := ?b115o) (v := ?b115v) ?b115h (by kernel_rfl) (by kernel_rfl) (by kernel_rfl) ?b115q ?b115y hHeld ?b115r
          case b115h => (simp only [List.getElem?_toArray, List.getElem?_cons_succ, List.getElem?_cons_zero]; rfl)
          case b115q => exact fun _ _ _ h => h
          case b115y => (refine Or.inl ⟨by first | kernel_rfl | rfl, ?_⟩; intro w hSw; (try dsimp only at hSw); have y1 := hSw; go_simp <;> (try with_reducible rfl))
          try simp only [Act.put, List.setIfInBounds_toArray, List.set_cons_zero, List.set_cons_succ]
          refine wpAnyH_take (i := 17) (oi := ?b116o) (v := ?b116v) ?b116h (by kernel_rfl) (by kernel_rfl) (by kernel_rfl) ?b116q ?b116y hHeld ?b116r
          case b116h => (simp only [List.getElem?_toArray, List.getElem?_cons_succ, List.getElem?_cons_zero]; rfl)
          case b116q => exact fun _ _ _ h => h
          case b116y => (refine Or.inl ⟨by first | kernel_rfl | rfl, ?_⟩; intro w hSw; (try dsimp only at hSw); have y1 := hSw; go_simp <;> (try with_reducible rfl))
          try simp only [Act.put, List.setIfInBounds_toArray, List.set_cons_zero, List.set_cons_succ]
          refine wpAnyH_take (i := 18) (oi := ?b117o) (v := ?b117v) ?b117h (by kernel_rfl) (by kernel_rfl) (by kernel_rfl) ?b117q ?b117y hHeld ?b117r
          case b117h => (simp only [List.getElem?_toArray, List.getElem?_cons_succ, List.getElem?_cons_zero]; rfl)
          case b117q => exact fun _ _ _ h => h
          case b117y => (refine Or.inl ⟨by first | kernel_rfl | rfl, ?_⟩; intro w hSw; (try dsimp only at hSw); have y1 := hSw; go_simp <;> (try with_reducible rfl))
          try simp only [Act.put, List.setIfInBounds_toArray, List.set_cons_zero, List.set_cons_succ]
          refine wpAnyH_done (by kernel_rfl) ?_ _
          go_wp2
          go_roundw
          case rel => exact ⟨k + 1, R7, by omega, by omega, by go_num, HL12⟩
          case measure => simp [intOf]; omega
      | true =>
        go_wp2_with fail
        refine wp_region_held_drew (S := (fun X => X.cell? ⟨ab, off + k, none⟩ = some (.int .i64 x))) (by kernel_rfl) hst (fun hHeld => ?_)
        refine wpAnyH_take (i := 0) (oi := ?a11o) (v := ?a11v) ?a11h (by kernel_rfl) (by kernel_rfl) (by kernel_rfl) ?a11q ?a11y hHeld ?a11r
        case a11h => (simp only [List.getElem?_toArray, List.getElem?_cons_zero]; rfl)
        case a11q => exact fun _ _ _ h => h
        case a11y => (refine Or.inl ⟨by first | kernel_rfl | rfl, ?_⟩; intro w hSw; (try dsimp only at hSw); have y1 := hSw; go_simp <;> (try with_reducible rfl))
        try simp only [Act.put, List.setIfInBounds_toArray, List.set_cons_zero, List.set_cons_succ]
        refine wpAnyH_take (i := 1) (oi := ?a12o) (v := ?a12v) ?a12h (by kernel_rfl) (by kernel_rfl) (by kernel_rfl) ?a12q ?a12y hHeld ?a12r
        case a12h => (simp only [List.getElem?_toArray, List.getElem?_cons_succ, List.getElem?_cons_zero]; rfl)
        case a12q => exact fun _ _ _ h => h
        case a12y => (refine Or.inl ⟨by first | kernel_rfl | rfl, ?_⟩; intro w hSw; (try dsimp only at hSw); have y1 := hSw; go_simp <;> (try with_reducible rfl))
        try simp only [Act.put, List.setIfInBounds_toArray, List.set_cons_zero, List.set_cons_succ]
        refine wpAnyH_take (i := 2) (oi := ?a13o) (v := ?a13v) ?a13h (by kernel_rfl) (by kernel_rfl) (by kernel_rfl) ?a13q ?a13y hHeld ?a13r
        case a13h => (simp only [List.getElem?_toArray, List.getElem?_cons_succ, List.getElem?_cons_zero]; rfl)
        case a13q => exact fun _ _ _ h => h
        case a13y => (refine Or.inl ⟨by first | kernel_rfl | rfl, ?_⟩; intro w hSw; (try dsimp only at hSw); have y1 := hSw; go_simp <;> (try with_reducible rfl))
        try simp only [Act.put, List.setIfInBounds_toArray, List.set_cons_zero, List.set_cons_succ]
        refine wpAnyH_take (i := 3) (oi := ?a14o) (v := ?a14v) ?a14h (by kernel_rfl) (by kernel_rfl) (by kernel_rfl) ?a14q ?a14y hHeld ?a14r
        case a14h => (simp only [List.getElem?_toArray, List.getElem?_cons_succ, List.getElem?_cons_zero]; rfl)
        case a14q => exact fun _ _ _ h => h
        case a14y => (refine Or.inl ⟨by first | kernel_rfl | rfl, ?_⟩; intro w hSw; (try dsimp only at hSw); have y1 := hSw; go_simp <;> (try with_reducible rfl))
        try simp only [Act.put, List.setIfInBounds_toArray, List.set_cons_zero, List.set_cons_succ]
        refine wpAnyH_take (i := 4) (oi := ?a15o) (v := ?a15v) ?a15h (by kernel_rfl) (by kernel_rfl) (by kernel_rfl) ?a15q ?a15y hHeld ?a15r
        case a15h => (simp only [List.getElem?_toArray, List.getElem?_cons_succ, List.getElem?_cons_zero]; rfl)
        case a15q => exact fun _ _ _ h => h
        case a15y => (refine Or.inl ⟨by first | kernel_rfl | rfl, ?_⟩; intro w hSw; (try dsimp only at hSw); have y1 := hSw; go_simp <;> (try with_reducible rfl))
        try simp only [Act.put, List.setIfInBounds_toArray, List.set_cons_zero, List.set_cons_succ]
        refine wpAnyH_take (i := 6) (oi := ?a16o) (v := ?a16v) ?a16h (by kernel_rfl) (by kernel_rfl) (by kernel_rfl) ?a16q ?a16y hHeld ?a16r
        case a16h => (simp only [List.getElem?_toArray, List.getElem?_cons_succ, List.getElem?_cons_zero]; rfl)
        case a16q => exact fun _ _ _ h => h
        case a16y => (refine Or.inl ⟨by first | kernel_rfl | rfl, ?_⟩; intro w hSw; (try dsimp only at hSw); have y1 := hSw; go_simp <;> (try with_reducible rfl))
        try simp only [Act.put, List.setIfInBounds_toArray, List.set_cons_zero, List.set_cons_succ]
        refine wpAnyH_take (i := 7) (oi := ?a17o) (v := ?a17v) ?a17h (by kernel_rfl) (by kernel_rfl) (by kernel_rfl) ?a17q ?a17y hHeld ?a17r
        case a17h => (simp only [List.getElem?_toArray, List.getElem?_cons_succ, List.getElem?_cons_zero]; rfl)
        case a17q => exact fun _ _ _ h => h
        case a17y => (refine Or.inl ⟨by first | kernel_rfl | rfl, ?_⟩; intro w hSw; (try dsimp only at hSw); have y1 := hSw; go_simp <;> (try with_reducible rfl))
        try simp only [Act.put, List.setIfInBounds_toArray, List.set_cons_zero, List.set_cons_succ]
        refine wpAnyH_take (i := 8) (oi := ?a18o) (v := ?a18v) ?a18h (by kernel_rfl) (by kernel_rfl) (by kernel_rfl) ?a18q ?a18y hHeld ?a18r
        case a18h => (simp only [List.getElem?_toArray, List.getElem?_cons_succ, List.getElem?_cons_zero]; rfl)
        case a18q => exact fun _ _ _ h => h
        case a18y => (refine Or.inl ⟨by first | kernel_rfl | rfl, ?_⟩; intro w hSw; (try dsimp only at hSw); have y1 := hSw; go_simp <;> (try with_reducible rfl))
        try simp only [Act.put, List.setIfInBounds_toArray, List.set_cons_zero, List.set_cons_succ]
        refine wpAnyH_take (i := 9) (oi := ?a19o) (v := ?a19v) ?a19h (by kernel_rfl) (by kernel_rfl) (by kernel_rfl) ?a19q ?a19y hHeld ?a19r
        case a19h => (simp only [List.getElem?_toArray, List.getElem?_cons_succ, List.getElem?_cons_zero]; rfl)
        case a19q => exact fun _ _ _ h => h
        case a19y => (refine Or.inl ⟨by first | kernel_rfl | rfl, ?_⟩; intro w hSw; (try dsimp only at hSw); have y1 := hSw; go_simp <;> (try with_reducible rfl))
        try simp only [Act.put, List.setIfInBounds_toArray, List.set_cons_zero, List.set_cons_succ]
        refine wpAnyH_take (i := 10) (oi := ?a110o) (v := ?a110v) ?a110h (by kernel_rfl) (by kernel_rfl) (by kernel_rfl) ?a110q ?a110y hHeld ?a110r
        case a110h => (simp only [List.getElem?_toArray, List.getElem?_cons_succ, List.getElem?_cons_zero]; rfl)
        case a110q => exact fun _ _ _ h => h
        case a110y => (refine Or.inl ⟨by first | kernel_rfl | rfl, ?_⟩; intro w hSw; (try dsimp only at hSw); have y1 := hSw; go_simp <;> (try with_reducible rfl))
        try simp only [Act.put, List.setIfInBounds_toArray, List.set_cons_zero, List.set_cons_succ]
        refine wpAnyH_ready (rs := [5]) (by kernel_rfl) (by simp) ?_
        refine (AllReadyH.cons rfl (fun K hK => ?_) AllReadyH.nil)
        go_simp
        (go_at_call 12; (have kk := ack_is x HD.out.wat); (rw [HZ.out] at kk); (with_reducible refine kk.mono ?_); rintro e w6 ⟨rfl, hw6⟩; (have HM6 := Lib.hid (show LM w w6 bw d B x R by rw [hw6]; exact HD.out.ack x)); (have hc6 := (HM6.out.bel.cell (p := ⟨ab, off + k, none⟩) hab).trans HC.out); clear kk hw6)
        refine hK.out _ _ (hc6) (fun hHeld => ?_)
        clear hK K
        try simp only [Act.put, List.setIfInBounds_toArray, List.set_cons_zero, List.set_cons_succ]
        refine wpAnyH_ready (rs := [11]) (by kernel_rfl) (by simp) ?_
        refine (AllReadyH.cons rfl (fun K hK => ?_) AllReadyH.nil)
        go_simp
        (go_at_call 13; (have kk := rans_is x none 0 [] HM6.out.dat HM6.out.hB ⟨⟨Or.inl rfl⟩, Nat.le_refl _, fun _ => rfl⟩ (by decide)); (simp only [List.length_nil] at kk); (with_reducible refine kk.mono ?_); rintro e w7 ⟨he, hD7, hf7⟩; (rw [HZ.out] at he); subst he; (have HL7 := Lib.hid (HM6.out.ans hD7 hf7)); (have hc7 := (HL7.out.bel.cell (p := ⟨ab, off + k, none⟩) hab).trans HC.out); clear kk hD7 hf7)
        refine hK.out _ _ (hc7) (fun hHeld => ?_)
        clear hK K
        try simp only [Act.put, List.setIfInBounds_toArray, List.set_cons_zero, List.set_cons_succ]
        refine wpAnyH_take (i := 12) (oi := ?a111o) (v := ?a111v) ?a111h (by kernel_rfl) (by kernel_rfl) (by kernel_rfl) ?a111q ?a111y hHeld ?a111r
        case a111h => (simp only [List.getElem?_toArray, List.getElem?_cons_succ, List.getElem?_cons_zero]; rfl)
        case a111q => exact fun _ _ _ h => h
        case a111y => (refine Or.inl ⟨by first | kernel_rfl | rfl, ?_⟩; intro w hSw; (try dsimp only at hSw); have y1 := hSw; go_simp <;> (try with_reducible rfl))
        try simp only [Act.put, List.setIfInBounds_toArray, List.set_cons_zero, List.set_cons_succ]
        refine wpAnyH_done (by kernel_rfl) ?_ _
        clear HM6 HD hc7 hc6 hst hc1
        generalize ansS R x [] = R7 at HL7
        go_upto_region 13 with (first
          | (go_at_call 15; (have kk := whave_is HL7.out.wat); (with_reducible refine kk.mono ?_); rintro e w1a ⟨v1, rfl, hRa, hba⟩; (obtain ⟨aa1, ca1, rfl⟩ := hRa.slice); (have HRA1 := Lib.hid hRa); (have HLA1 := Lib.hid (HL7.out.later hba)); clear kk hRa hba)
          | (go_at_call 16; (have kk := rhav_is true HLA1.out.dat); (rw [both_yes] at kk); (with_reducible refine kk.mono ?_); rintro e w1b ⟨v1b, rfl, hRb, hbb⟩; (obtain ⟨ab1, cb1, rfl⟩ := hRb.slice); (have HRB1 := Lib.hid hRb); (have HRA1b := Lib.hid (IRow.later HRA1.out hbb)); (have HLB1 := Lib.hid (HLA1.out.later hbb)); clear kk hRb hbb)
          | (go_at_call 14; (have kk := rsame_is _ _ _ _ _ _ _ (rep_ns HRA1b.out) (rep_ns HRB1.out)); (rw [sameL_self] at kk); (with_reducible refine kk.mono ?_); rintro e w1c ⟨rfl, hbc⟩; (have HL8 := Lib.hid (HLB1.out.later hbc)); clear kk hbc HRA1 HRB1 HRA1b HLA1 HLB1))
        go_upto_region 14 with (first
          | (go_at_call 17; (have kk := wmissing_is HL8.out.wat); (with_reducible refine kk.mono ?_); rintro e w2a ⟨v2, rfl, hRa, hba⟩; (obtain ⟨aa2, ca2, rfl⟩ := hRa.slice); (have HRA2 := Lib.hid hRa); (have HLA2 := Lib.hid (HL8.out.later hba)); clear kk hRa hba)
          | (go_at_call 16; (have kk := rhav_is false HLA2.out.dat); (rw [both_no] at kk); (with_reducible refine kk.mono ?_); rintro e w2b ⟨v2b, rfl, hRb, hbb⟩; (obtain ⟨ab2, cb2, rfl⟩ := hRb.slice); (have HRB2 := Lib.hid hRb); (have HRA2b := Lib.hid (IRow.later HRA2.out hbb)); (have HLB2 := Lib.hid (HLA2.out.later hbb)); clear kk hRb hbb)
          | (go_at_call 14; (have kk := rsame_is _ _ _ _ _ _ _ (rep_ns HRA2b.out) (rep_ns HRB2.out)); (rw [sameL_self] at kk); (with_reducible refine kk.mono ?_); rintro e w2c ⟨rfl, hbc⟩; (have HL9 := Lib.hid (HLB2.out.later hbc)); clear kk hbc HRA2 HRB2 HRA2b HLA2 HLB2))
        obtain ⟨m, hm⟩ : ∃ m, max R7.S.need 1 = m := ⟨_, rfl⟩
        have HMX := Lib.hid hm
        obtain ⟨n, hn⟩ : ∃ n, (repL R7.S).length = n := ⟨_, rfl⟩
        have HN := Lib.hid hn
        have HL10 := Lib.hid (HL9.out.later (Below.refl _ _).drew)
        have hne := HL10.out.dat.need
        rw [hm] at hne
        clear hm hn
        by_cases hd : m ≤ (n : Int)
        · have HDN := Lib.hid (show doneB R7.S = true by unfold doneB; rw [HMX.out, HN.out]; exact decide_eq_true hd)
          refine wp_region_held_drew (S := (fun X => X.cell? ⟨d, 0, none⟩ = some (.int .i64 m))) (by kernel_rfl) hne (fun hHeld => ?_)
          refine wpAnyH_take (i := 0) (oi := ?b21o) (v := ?b21v) ?b21h (by kernel_rfl) (by kernel_rfl) (by kernel_rfl) ?b21q ?b21y hHeld ?b21r
          case b21h => (simp only [List.getElem?_toArray, List.getElem?_cons_zero]; rfl)
          case b21q => exact fun _ _ _ h => h
          case b21y => (refine Or.inl ⟨by first | kernel_rfl | rfl, ?_⟩; intro w hSw; (try dsimp only at hSw); have y1 := hSw; go_simp <;> (try with_reducible rfl))
          try simp only [Act.put, List.setIfInBounds_toArray, List.set_cons_zero, List.set_cons_succ]
          refine wpAnyH_take (i := 1) (oi := ?b22o) (v := ?b22v) ?b22h (by kernel_rfl) (by kernel_rfl) (by kernel_rfl) ?b22q ?b22y hHeld ?b22r
          case b22h => (simp only [List.getElem?_toArray, List.getElem?_cons_succ, List.getElem?_cons_zero]; rfl)
          case b22q => exact fun _ _ _ h => h
          case b22y => (refine Or.inl ⟨by first | kernel_rfl | rfl, ?_⟩; intro w hSw; (try dsimp only at hSw); have y1 := hSw; go_simp <;> (try with_reducible rfl))
          try simp only [Act.put, List.setIfInBounds_toArray, List.set_cons_zero, List.set_cons_succ]
          refine wpAnyH_take (i := 2) (oi := ?b23o) (v := ?b23v) ?b23h (by kernel_rfl) (by kernel_rfl) (by kernel_rfl) ?b23q ?b23y hHeld ?b23r
          case b23h => (simp only [List.getElem?_toArray, List.getElem?_cons_succ, List.getElem?_cons_zero]; rfl)
          case b23q => exact fun _ _ _ h => h
          case b23y => (refine Or.inl ⟨by first | kernel_rfl | rfl, ?_⟩; intro w hSw; (try dsimp only at hSw); have y1 := hSw; go_simp <;> (try with_reducible rfl))
          try simp only [Act.put, List.setIfInBounds_toArray, List.set_cons_zero, List.set_cons_succ]
          refine wpAnyH_take (i := 3) (oi := ?b24o) (v := ?b24v) ?b24h (by kernel_rfl) (by kernel_rfl) (by kernel_rfl) ?b24q ?b24y hHeld ?b24r
          case b24h => (simp only [List.getElem?_toArray, List.getElem?_cons_succ, List.getElem?_cons_zero]; rfl)
          case b24q => exact fun _ _ _ h => h
          case b24y => (refine Or.inl ⟨by first | kernel_rfl | rfl, ?_⟩; intro w hSw; (try dsimp only at hSw); have y1 := hSw; go_simp <;> (try with_reducible rfl))
          try simp only [Act.put, List.setIfInBounds_toArray, List.set_cons_zero, List.set_cons_succ]
          refine wpAnyH_take (i := 4) (oi := ?b25o) (v := ?b25v) ?b25h (by kernel_rfl) (by kernel_rfl) (by kernel_rfl) ?b25q ?b25y hHeld ?b25r
          case b25h => (simp only [List.getElem?_toArray, List.getElem?_cons_succ, List.getElem?_cons_zero]; rfl)
          case b25q => exact fun _ _ _ h => h
          case b25y => (refine Or.inl ⟨by first | kernel_rfl | rfl, ?_⟩; intro w hSw; (try dsimp only at hSw); have y1 := hSw; go_simp <;> (try with_reducible rfl))
          try simp only [Act.put, List.setIfInBounds_toArray, List.set_cons_zero, List.set_cons_succ]
          refine wpAnyH_take (i := 5) (oi := ?b26o) (v := ?b26v) ?b26h (by kernel_rfl) (by kernel_rfl) (by kernel_rfl) ?b26q ?b26y hHeld ?b26r
          case b26h => (simp only [List.getElem?_toArray, List.getElem?_cons_succ, List.getElem?_cons_zero]; rfl)
          case b26q => exact fun _ _ _ h => h
          case b26y => (refine Or.inl ⟨by first | kernel_rfl | rfl, ?_⟩; intro w hSw; (try dsimp only at hSw); have y1 := hSw; go_simp <;> (try with_reducible rfl))
          try simp only [Act.put, List.setIfInBounds_toArray, List.set_cons_zero, List.set_cons_succ]
          refine wpAnyH_take (i := 6) (oi := ?b27o) (v := ?b27v) ?b27h (by kernel_rfl) (by kernel_rfl) (by kernel_rfl) ?b27q ?b27y hHeld ?b27r
          case b27h => (simp only [List.getElem?_toArray, List.getElem?_cons_succ, List.getElem?_cons_zero]; rfl)
          case b27q => exact fun _ _ _ h => h
          case b27y => (refine Or.inl ⟨by first | kernel_rfl | rfl, ?_⟩; intro w hSw; (try dsimp only at hSw); have y1 := hSw; go_simp <;> (try with_reducible rfl))
          try simp only [Act.put, List.setIfInBounds_toArray, List.set_cons_zero, List.set_cons_succ]
          refine wpAnyH_take (i := 7) (oi := ?b28o) (v := ?b28v) ?b28h (by kernel_rfl) (by kernel_rfl) (by kernel_rfl) ?b28q ?b28y hHeld ?b28r
          case b28h => (simp only [List.getElem?_toArray, List.getElem?_cons_succ, List.getElem?_cons_zero]; rfl)
          case b28q => exact fun _ _ _ h => h
          case b28y => (refine Or.inl ⟨by first | kernel_rfl | rfl, ?_⟩; intro w hSw; (try dsimp only at hSw); have y1 := hSw; go_simp <;> (try with_reducible rfl))
          try simp only [Act.put, List.setIfInBounds_toArray, List.set_cons_zero, List.set_cons_succ]
          refine wpAnyH_take (i := 9) (oi := ?b29o) (v := ?b29v) ?b29h (by kernel_rfl) (by kernel_rfl) (by kernel_rfl) ?b29q ?b29y hHeld ?b29r
          case b29h => (simp only [List.getElem?_toArray, List.getElem?_cons_succ, List.getElem?_cons_zero]; rfl)
          case b29q => exact fun _ _ _ h => h
          case b29y => (refine Or.inl ⟨by first | kernel_rfl | rfl, ?_⟩; intro w hSw; (try dsimp only at hSw); have y1 := hSw; go_simp <;> (try with_reducible rfl))
          try simp only [Act.put, List.setIfInBounds_toArray, List.set_cons_zero, List.set_cons_succ]
          refine wpAnyH_take (i := 12) (oi := ?b210o) (v := ?b210v) ?b210h (by kernel_rfl) (by kernel_rfl) (by kernel_rfl) ?b210q ?b210y hHeld ?b210r
          case b210h => (simp only [List.getElem?_toArray, List.getElem?_cons_succ, List.getElem?_cons_zero]; rfl)
          case b210q => exact fun _ _ _ h => h
          case b210y => (refine Or.inl ⟨by first | kernel_rfl | rfl, ?_⟩; intro w hSw; (try dsimp only at hSw); have y1 := hSw; go_simp <;> (try with_reducible rfl))
          try simp only [Act.put, List.setIfInBounds_toArray, List.set_cons_zero, List.set_cons_succ]
          refine wpAnyH_take (i := 13) (oi := ?b211o) (v := ?b211v) ?b211h (by kernel_rfl) (by kernel_rfl) (by kernel_rfl) ?b211q ?b211y hHeld ?b211r
          case b211h => (simp only [List.getElem?_toArray, List.getElem?_cons_succ, List.getElem?_cons_zero]; rfl)
          case b211q => exact fun _ _ _ h => h
          case b211y => (refine Or.inl ⟨by first | kernel_rfl | rfl, ?_⟩; intro w hSw; (try dsimp only at hSw); have y1 := hSw; go_simp <;> (try with_reducible rfl))
          try simp only [Act.put, List.setIfInBounds_toArray, List.set_cons_zero, List.set_cons_succ]
          refine wpAnyH_take (i := 14) (oi := ?b212o) (v := ?b212v) ?b212h (by kernel_rfl) (by kernel_rfl) (by kernel_rfl) ?b212q ?b212y hHeld ?b212r
          case b212h => (simp only [List.getElem?_toArray, List.getElem?_cons_succ, List.getElem?_cons_zero]; rfl)
          case b212q => exact fun _ _ _ h => h
          case b212y => (refine Or.inl ⟨by first | kernel_rfl | rfl, ?_⟩; intro w hSw; (try dsimp only at hSw); have y1 := hSw; go_simp <;> (try with_reducible rfl))
          try simp only [Act.put, List.setIfInBounds_toArray, List.set_cons_zero, List.set_cons_succ]
          refine wpAnyH_take (i := 15) (oi := ?b213o) (v := ?b213v) ?b213h (by kernel_rfl) (by kernel_rfl) (by kernel_rfl) ?b213q ?b213y hHeld ?b213r
          case b213h => (simp only [List.getElem?_toArray, List.getElem?_cons_succ, List.getElem?_cons_zero]; rfl)
          case b213q => exact fun _ _ _ h => h
          case b213y => (refine Or.inl ⟨by first | kernel_rfl | rfl, ?_⟩; intro w hSw; (try dsimp only at hSw); have y1 := hSw; go_simp <;> (try with_reducible rfl))
          try simp only [Act.put, List.setIfInBounds_toArray, List.set_cons_zero, List.set_cons_succ]
          refine wpAnyH_ready (rs := [8]) (by kernel_rfl) (by simp) ?_
          refine (AllReadyH.cons rfl (fun K hK => ?_) AllReadyH.nil)
          go_simp
          (go_at_call 18; (have kk := wdone_is HL10.out.wat); (rw [HDN.out] at kk); (with_reducible refine kk.mono ?_); rintro e w11 ⟨rfl, hb11⟩; (have HL11 := Lib.hid (HL10.out.later hb11)); (have hn11 := HL11.out.dat.need); (rw [HMX.out] at hn11); clear kk hb11)
          refine hK.out _ _ (hn11) (fun hHeld => ?_)
          clear hK K
          try simp only [Act.put, List.setIfInBounds_toArray, List.set_cons_zero, List.set_cons_succ]
          refine wpAnyH_ready (rs := [10]) (by kernel_rfl) (by simp) ?_
          refine (AllReadyH.cons rfl (fun K hK => ?_) AllReadyH.nil)
          go_simp
          (go_at_call 16; (have kk := rhav_is true HL11.out.dat); (rw [both_yes] at kk); (with_reducible refine kk.mono ?_); rintro e w12 ⟨v12, rfl, hR12, hb12⟩; (obtain ⟨a12, c12, rfl⟩ := hR12.slice); (rw [HN.out]); (have HL12 := Lib.hid (HL11.out.later hb12)); (have hn12 := HL12.out.dat.need); (rw [HMX.out] at hn12); clear kk hb12 hR12)
          refine hK.out _ _ (hn12) (fun hHeld => ?_)
          clear hK K
          try simp only [Act.put, List.setIfInBounds_toArray, List.set_cons_zero, List.set_cons_succ]
          refine wpAnyH_take (i := 11) (oi := ?b214o) (v := ?b214v) ?b214h (by kernel_rfl) (by kernel_rfl) (by kernel_rfl) ?b214q ?b214y hHeld ?b214r
          case b214h => (simp only [List.getElem?_toArray, List.getElem?_cons_succ, List.getElem?_cons_zero]; rfl)
          case b214q => exact fun _ _ _ h => h
          case b214y => (refine Or.inl ⟨by first | kernel_rfl | rfl, ?_⟩; intro w hSw; (try dsimp only at hSw); have y1 := hSw; go_simp <;> (try with_reducible rfl))
          try simp only [Act.put, List.setIfInBounds_toArray, List.set_cons_zero, List.set_cons_succ]
          refine wpAnyH_take (i := 16) (oi := ?b215o) (v := ?b215v) ?b215h (by kernel_rfl) (by kernel_rfl) (by kernel_rfl) ?b215q ?b215y hHeld ?b215r
          case b215h => (simp only [List.getElem?_toArray, List.getElem?_cons_succ, List.getElem?_cons_zero]; rfl)
          case b215q => exact fun _ _ _ h => h
          case b215y => (refine Or.inl ⟨by first | kernel_rfl | rfl, ?_⟩; intro w hSw; (try dsimp only at hSw); have y1 := hSw; go_simp <;> (try with_reducible rfl))
          try simp only [Act.put, List.setIfInBounds_toArray, List.set_cons_zero, List.set_cons_succ]
          refine wpAnyH_take (i := 17) (oi := ?b216o) (v := ?b216v) ?b216h (by kernel_rfl) (by kernel_rfl) (by kernel_rfl) ?b216q ?b216y hHeld ?b216r
          case b216h => (simp only [List.getElem?_toArray, List.getElem?_cons_succ, List.getElem?_cons_zero]; rfl)
          case b216q => exact fun _ _ _ h => h
          case b216y => (refine Or.inl ⟨by first | kernel_rfl | rfl, ?_⟩; intro w hSw; (try dsimp only at hSw); have y1 := hSw; go_simp <;> (try with_reducible rfl))
          try simp only [Act.put, List.setIfInBounds_toArray, List.set_cons_zero, List.set_cons_succ]
          refine wpAnyH_take (i := 18) (oi := ?b217o) (v := ?b217v) ?b217h (by kernel_rfl) (by kernel_rfl) (by kernel_rfl) ?b217q ?b217y hHeld ?b217r
          case b217h => (simp only [List.getElem?_toArray, List.getElem?_cons_succ, List.getElem?_cons_zero]; rfl)
          case b217q => exact fun _ _ _ h => h
          case b217y => (refine Or.inl ⟨by first | kernel_rfl | rfl, ?_⟩; intro w hSw; (try dsimp only at hSw); have y1 := hSw; go_simp <;> (try with_reducible rfl))
          try simp only [Act.put, List.setIfInBounds_toArray, List.set_cons_zero, List.set_cons_succ]
          refine wpAnyH_done (by kernel_rfl) ?_ _
          go_wp2
          go_roundw
          case rel => exact ⟨k + 1, R7, by omega, by omega, by go_num, HL12⟩
          case measure => simp [intOf]; omega
        · have HDN := Lib.hid (show doneB R7.S = false by unfold doneB; rw [HMX.out, HN.out]; exact decide_eq_false hd)
          refine wp_region_held_drew (S := (fun X => X.cell? ⟨d, 0, none⟩ = some (.int .i64 m))) (by kernel_rfl) hne (fun hHeld => ?_)
          refine wpAnyH_take (i := 0) (oi := ?b31o) (v := ?b31v) ?b31h (by kernel_rfl) (by kernel_rfl) (by kernel_rfl) ?b31q ?b31y hHeld ?b31r
          case b31h => (simp only [List.getElem?_toArray, List.getElem?_cons_zero]; rfl)
          case b31q => exact fun _ _ _ h => h
          case b31y => (refine Or.inl ⟨by first | kernel_rfl | rfl, ?_⟩; intro w hSw; (try dsimp only at hSw); have y1 := hSw; go_simp <;> (try with_reducible rfl))
          try simp only [Act.put, List.setIfInBounds_toArray, List.set_cons_zero, List.set_cons_succ]
          refine wpAnyH_take (i := 1) (oi := ?b32o) (v := ?b32v) ?b32h (by kernel_rfl) (by kernel_rfl) (by kernel_rfl) ?b32q ?b32y hHeld ?b32r
          case b32h => (simp only [List.getElem?_toArray, List.getElem?_cons_succ, List.getElem?_cons_zero]; rfl)
          case b32q => exact fun _ _ _ h => h
          case b32y => (refine Or.inl ⟨by first | kernel_rfl | rfl, ?_⟩; intro w hSw; (try dsimp only at hSw); have y1 := hSw; go_simp <;> (try with_reducible rfl))
          try simp only [Act.put, List.setIfInBounds_toArray, List.set_cons_zero, List.set_cons_succ]
          refine wpAnyH_take (i := 2) (oi := ?b33o) (v := ?b33v) ?b33h (by kernel_rfl) (by kernel_rfl) (by kernel_rfl) ?b33q ?b33y hHeld ?b33r
          case b33h => (simp only [List.getElem?_toArray, List.getElem?_cons_succ, List.getElem?_cons_zero]; rfl)
          case b33q => exact fun _ _ _ h => h
          case b33y => (refine Or.inl ⟨by first | kernel_rfl | rfl, ?_⟩; intro w hSw; (try dsimp only at hSw); have y1 := hSw; go_simp <;> (try with_reducible rfl))
          try simp only [Act.put, List.setIfInBounds_toArray, List.set_cons_zero, List.set_cons_succ]
          refine wpAnyH_take (i := 3) (oi := ?b34o) (v := ?b34v) ?b34h (by kernel_rfl) (by kernel_rfl) (by kernel_rfl) ?b34q ?b34y hHeld ?b34r
          case b34h => (simp only [List.getElem?_toArray, List.getElem?_cons_succ, List.getElem?_cons_zero]; rfl)
          case b34q => exact fun _ _ _ h => h
          case b34y => (refine Or.inl ⟨by first | kernel_rfl | rfl, ?_⟩; intro w hSw; (try dsimp only at hSw); have y1 := hSw; go_simp <;> (try with_reducible rfl))
          try simp only [Act.put, List.setIfInBounds_toArray, List.set_cons_zero, List.set_cons_succ]
          refine wpAnyH_take (i := 4) (oi := ?b35o) (v := ?b35v) ?b35h (by kernel_rfl) (by kernel_rfl) (by kernel_rfl) ?b35q ?b35y hHeld ?b35r
          case b35h => (simp only [List.getElem?_toArray, List.getElem?_cons_succ, List.getElem?_cons_zero]; rfl)
          case b35q => exact fun _ _ _ h => h
          case b35y => (refine Or.inl ⟨by first | kernel_rfl | rfl, ?_⟩; intro w hSw; (try dsimp only at hSw); have y1 := hSw; go_simp <;> (try with_reducible rfl))
          try simp only [Act.put, List.setIfInBounds_toArray, List.set_cons_zero, List.set_cons_succ]
          refine wpAnyH_take (i := 5) (oi := ?b36o) (v := ?b36v) ?b36h (by kernel_rfl) (by kernel_rfl) (by kernel_rfl) ?b36q ?b36y hHeld ?b36r
          case b36h => (simp only [List.getElem?_toArray, List.getElem?_cons_succ, List.getElem?_cons_zero]; rfl)
          case b36q => exact fun _ _ _ h => h
          case b36y => (refine Or.inl ⟨by first | kernel_rfl | rfl, ?_⟩; intro w hSw; (try dsimp only at hSw); have y1 := hSw; go_simp <;> (try with_reducible rfl))
          try simp only [Act.put, List.setIfInBounds_toArray, List.set_cons_zero, List.set_cons_succ]
          refine wpAnyH_take (i := 6) (oi := ?b37o) (v := ?b37v) ?b37h (by kernel_rfl) (by kernel_rfl) (by kernel_rfl) ?b37q ?b37y hHeld ?b37r
          case b37h => (simp only [List.getElem?_toArray, List.getElem?_cons_succ, List.getElem?_cons_zero]; rfl)
          case b37q => exact fun _ _ _ h => h
          case b37y => (refine Or.inl ⟨by first | kernel_rfl | rfl, ?_⟩; intro w hSw; (try dsimp only at hSw); have y1 := hSw; go_simp <;> (try with_reducible rfl))
          try simp only [Act.put, List.setIfInBounds_toArray, List.set_cons_zero, List.set_cons_succ]
          refine wpAnyH_take (i := 7) (oi := ?b38o) (v := ?b38v) ?b38h (by kernel_rfl) (by kernel_rfl) (by kernel_rfl) ?b38q ?b38y hHeld ?b38r
          case b38h => (simp only [List.getElem?_toArray, List.getElem?_cons_succ, List.getElem?_cons_zero]; rfl)
          case b38q => exact fun _ _ _ h => h
          case b38y => (refine Or.inl ⟨by first | kernel_rfl | rfl, ?_⟩; intro w hSw; (try dsimp only at hSw); have y1 := hSw; go_simp <;> (try with_reducible rfl))
          try simp only [Act.put, List.setIfInBounds_toArray, List.set_cons_zero, List.set_cons_succ]
          refine wpAnyH_take (i := 9) (oi := ?b39o) (v := ?b39v) ?b39h (by kernel_rfl) (by kernel_rfl) (by kernel_rfl) ?b39q ?b39y hHeld ?b39r
          case b39h => (simp only [List.getElem?_toArray, List.getElem?_cons_succ, List.getElem?_cons_zero]; rfl)
          case b39q => exact fun _ _ _ h => h
          case b39y => (refine Or.inl ⟨by first | kernel_rfl | rfl, ?_⟩; intro w hSw; (try dsimp only at hSw); have y1 := hSw; go_simp <;> (try with_reducible rfl))
          try simp only [Act.put, List.setIfInBounds_toArray, List.set_cons_zero, List.set_cons_succ]
          refine wpAnyH_take (i := 12) (oi := ?b310o) (v := ?b310v) ?b310h (by kernel_rfl) (by kernel_rfl) (by kernel_rfl) ?b310q ?b310y hHeld ?b310r
          case b310h => (simp only [List.getElem?_toArray, List.getElem?_cons_succ, List.getElem?_cons_zero]; rfl)
          case b310q => exact fun _ _ _ h => h
          case b310y => (refine Or.inl ⟨by first | kernel_rfl | rfl, ?_⟩; intro w hSw; (try dsimp only at hSw); have y1 := hSw; go_simp <;> (try with_reducible rfl))
          try simp only [Act.put, List.setIfInBounds_toArray, List.set_cons_zero, List.set_cons_succ]
          refine wpAnyH_take (i := 13) (oi := ?b311o) (v := ?b311v) ?b311h (by kernel_rfl) (by kernel_rfl) (by kernel_rfl) ?b311q ?b311y hHeld ?b311r
          case b311h => (simp only [List.getElem?_toArray, List.getElem?_cons_succ, List.getElem?_cons_zero]; rfl)
          case b311q => exact fun _ _ _ h => h
          case b311y => (refine Or.inl ⟨by first | kernel_rfl | rfl, ?_⟩; intro w hSw; (try dsimp only at hSw); have y1 := hSw; go_simp <;> (try with_reducible rfl))
          try simp only [Act.put, List.setIfInBounds_toArray, List.set_cons_zero, List.set_cons_succ]
          refine wpAnyH_take (i := 14) (oi := ?b312o) (v := ?b312v) ?b312h (by kernel_rfl) (by kernel_rfl) (by kernel_rfl) ?b312q ?b312y hHeld ?b312r
          case b312h => (simp only [List.getElem?_toArray, List.getElem?_cons_succ, List.getElem?_cons_zero]; rfl)
          case b312q => exact fun _ _ _ h => h
          case b312y => (refine Or.inl ⟨by first | kernel_rfl | rfl, ?_⟩; intro w hSw; (try dsimp only at hSw); have y1 := hSw; go_simp <;> (try with_reducible rfl))
          try simp only [Act.put, List.setIfInBounds_toArray, List.set_cons_zero, List.set_cons_succ]
          refine wpAnyH_take (i := 15) (oi := ?b313o) (v := ?b313v) ?b313h (by kernel_rfl) (by kernel_rfl) (by kernel_rfl) ?b313q ?b313y hHeld ?b313r
          case b313h => (simp only [List.getElem?_toArray, List.getElem?_cons_succ, List.getElem?_cons_zero]; rfl)
          case b313q => exact fun _ _ _ h => h
          case b313y => (refine Or.inl ⟨by first | kernel_rfl | rfl, ?_⟩; intro w hSw; (try dsimp only at hSw); have y1 := hSw; go_simp <;> (try with_reducible rfl))
          try simp only [Act.put, List.setIfInBounds_toArray, List.set_cons_zero, List.set_cons_succ]
          refine wpAnyH_ready (rs := [8]) (by kernel_rfl) (by simp) ?_
          refine (AllReadyH.cons rfl (fun K hK => ?_) AllReadyH.nil)
          go_simp
          (go_at_call 18; (have kk := wdone_is HL10.out.wat); (rw [HDN.out] at kk); (with_reducible refine kk.mono ?_); rintro e w11 ⟨rfl, hb11⟩; (have HL11 := Lib.hid (HL10.out.later hb11)); (have hn11 := HL11.out.dat.need); (rw [HMX.out] at hn11); clear kk hb11)
          refine hK.out _ _ (hn11) (fun hHeld => ?_)
          clear hK K
          try simp only [Act.put, List.setIfInBounds_toArray, List.set_cons_zero, List.set_cons_succ]
          refine wpAnyH_ready (rs := [10]) (by kernel_rfl) (by simp) ?_
          refine (AllReadyH.cons rfl (fun K hK => ?_) AllReadyH.nil)
          go_simp
          (go_at_call 16; (have kk := rhav_is true HL11.out.dat); (rw [both_yes] at kk); (with_reducible refine kk.mono ?_); rintro e w12 ⟨v12, rfl, hR12, hb12⟩; (obtain ⟨a12, c12, rfl⟩ := hR12.slice); (rw [HN.out]); (have HL12 := Lib.hid (HL11.out.later hb12)); (have hn12 := HL12.out.dat.need); (rw [HMX.out] at hn12); clear kk hb12 hR12)
          refine hK.out _ _ (hn12) (fun hHeld => ?_)
          clear hK K
          try simp only [Act.put, List.setIfInBounds_toArray, List.set_cons_zero, List.set_cons_succ]
          refine wpAnyH_take (i := 11) (oi := ?b314o) (v := ?b314v) ?b314h (by kernel_rfl) (by kernel_rfl) (by kernel_rfl) ?b314q ?b314y hHeld ?b314r
          case b314h => (simp only [List.getElem?_toArray, List.getElem?_cons_succ, List.getElem?_cons_zero]; rfl)
          case b314q => exact fun _ _ _ h => h
          case b314y => (refine Or.inl ⟨by first | kernel_rfl | rfl, ?_⟩; intro w hSw; (try dsimp only at hSw); have y1 := hSw; go_simp <;> (try with_reducible rfl))
          try simp only [Act.put, List.setIfInBounds_toArray, List.set_cons_zero, List.set_cons_succ]
          refine wpAnyH_take (i := 16) (oi := ?b315o) (v := ?b315v) ?b315h (by kernel_rfl) (by kernel_rfl) (by kernel_rfl) ?b315q ?b315y hHeld ?b315r
          case b315h => (simp only [List.getElem?_toArray, List.getElem?_cons_succ, List.getElem?_cons_zero]; rfl)
          case b315q => exact fun _ _ _ h => h
          case b315y => (refine Or.inl ⟨by first | kernel_rfl | rfl, ?_⟩; intro w hSw; (try dsimp only at hSw); have y1 := hSw; go_simp <;> (try with_reducible rfl))
          try simp only [Act.put, List.setIfInBounds_toArray, List.set_cons_zero, List.set_cons_succ]
          refine wpAnyH_take (i := 17) (oi := ?b316o) (v := ?b316v) ?b316h (by kernel_rfl) (by kernel_rfl) (by kernel_rfl) ?b316q ?b316y hHeld ?b316r
          case b316h => (simp only [List.getElem?_toArray, List.getElem?_cons_succ, List.getElem?_cons_zero]; rfl)
          case b316q => exact fun _ _ _ h => h
          case b316y => (refine Or.inl ⟨by first | kernel_rfl | rfl, ?_⟩; intro w hSw; (try dsimp only at hSw); have y1 := hSw; go_simp <;> (try with_reducible rfl))
          try simp only [Act.put, List.setIfInBounds_toArray, List.set_cons_zero, List.set_cons_succ]
          refine wpAnyH_take (i := 18) (oi := ?b317o) (v := ?b317v) ?b317h (by kernel_rfl) (by kernel_rfl) (by kernel_rfl) ?b317q ?b317y hHeld ?b317r
          case b317h => (simp only [List.getElem?_toArray, List.getElem?_cons_succ, List.getElem?_cons_zero]; rfl)
          case b317q => exact fun _ _ _ h => h
          case b317y => (refine Or.inl ⟨by first | kernel_rfl | rfl, ?_⟩; intro w hSw; (try dsimp only at hSw); have y1 := hSw; go_simp <;> (try with_reducible rfl))
          try simp only [Act.put, List.setIfInBounds_toArray, List.set_cons_zero, List.set_cons_succ]
          refine wpAnyH_done (by kernel_rfl) ?_ _
          go_wp2
          go_roundw
          case rel => exact ⟨k + 1, R7, by omega, by omega, by go_num, HL12⟩
          case measure => simp [intOf]; omega
    · have hg2 : ((k : Int) < (al : Int) ∧ ¬ (k : Int) < 20) ∨ ¬ (k : Int) < (al : Int) := by omega
      clear hgo
      rcases hg2 with ⟨hg2, hg3⟩ | hg2
      · skip
        go_wp2_with (first
          | (go_at_call 17; (have kk := wmissing_is HL.out.wat); (with_reducible refine kk.mono ?_); rintro e w3a ⟨v3, rfl, hRa, hba⟩; (obtain ⟨aa3, ca3, rfl⟩ := hRa.slice); (have HRA3 := Lib.hid hRa); (have HLA3 := Lib.hid (HL.out.later hba)); clear kk hRa hba)
          | (go_at_call 16; (have kk := rhav_is false HLA3.out.dat); (rw [both_no] at kk); (with_reducible refine kk.mono ?_); rintro e w3b ⟨v3b, rfl, hRb, hbb⟩; (obtain ⟨ab3, cb3, rfl⟩ := hRb.slice); (have HRB3 := Lib.hid hRb); (have HRA3b := Lib.hid (IRow.later HRA3.out hbb)); (have HLB3 := Lib.hid (HLA3.out.later hbb)); clear kk hRb hbb)
          | (go_at_call 14; (have kk := rsame_is _ _ _ _ _ _ _ (rep_ns HRA3b.out) (rep_ns HRB3.out)); (rw [sameL_self] at kk); (with_reducible refine kk.mono ?_); rintro e w3c ⟨rfl, hbc⟩; (have HL9 := Lib.hid (HLB3.out.later hbc)); clear kk hbc HRA3 HRB3 HRA3b HLA3 HLB3))
        go_ret
        exact ⟨rfl, HL9.out.bel⟩
      · skip
        go_wp2_with (first
          | (go_at_call 17; (have kk := wmissing_is HL.out.wat); (with_reducible refine kk.mono ?_); rintro e w3a ⟨v3, rfl, hRa, hba⟩; (obtain ⟨aa3, ca3, rfl⟩ := hRa.slice); (have HRA3 := Lib.hid hRa); (have HLA3 := Lib.hid (HL.out.later hba)); clear kk hRa hba)
          | (go_at_call 16; (have kk := rhav_is false HLA3.out.dat); (rw [both_no] at kk); (with_reducible refine kk.mono ?_); rintro e w3b ⟨v3b, rfl, hRb, hbb⟩; (obtain ⟨ab3, cb3, rfl⟩ := hRb.slice); (have HRB3 := Lib.hid hRb); (have HRA3b := Lib.hid (IRow.later HRA3.out hbb)); (have HLB3 := Lib.hid (HLA3.out.later hbb)); clear kk hRb hbb)
          | (go_at_call 14; (have kk := rsame_is _ _ _ _ _ _ _ (rep_ns HRA3b.out) (rep_ns HRB3.out)); (rw [sameL_self] at kk); (with_reducible refine kk.mono ?_); rintro e w3c ⟨rfl, hbc⟩; (have HL9 := Lib.hid (HLB3.out.later hbc)); clear kk hbc HRA3 HRB3 HRA3b HLA3 HLB3))
        go_ret
        exact ⟨rfl, HL9.out.bel⟩
end quorumWrites
end Go.Proofs.Ytcjcbbpolhpphaa.Qu
