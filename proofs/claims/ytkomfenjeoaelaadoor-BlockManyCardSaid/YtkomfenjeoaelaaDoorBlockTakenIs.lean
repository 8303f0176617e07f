/- The contract of taken. -/
import Derived.Test.YtkomfenjeoaelaaDoorBlockTakenAll
import Derived.Deep.CutRange
set_option maxRecDepth 20000
set_option linter.unusedSimpArgs false
set_option linter.unusedVariables false
namespace Go.Proofs.YtkomfenjeoaelaaDoor
open Go.RowKit Go.Proofs.YtkomfenjeoaelaaDoor.Vi Go.Proofs.YtkomfenjeoaelaaDoor.Mk

theorem keepA12 {W : World} {z : Nat} {v : Value} {o : Obj} (h : W.cell? ⟨z, 0, none⟩ = some v) : (W.alloc o).cell? ⟨z, 0, none⟩ = some v := (((Below.refl W.heap.size W).alloc (Nat.le_refl _) o).cell (p := ⟨z, 0, none⟩) (World.block_lt_of_cell? _ _ h)).trans h
theorem keepS12 {W : World} {z b : Nat} {v x : Value} (hb : b ≠ z) (h : W.cell? ⟨z, 0, none⟩ = some v) : (W.setCell ⟨b, 0, none⟩ x).cell? ⟨z, 0, none⟩ = some v := by
  rw [World.cell?_setCell_far _ _ _ _ hb]; exact h

set_option maxHeartbeats 8000000 in
theorem taken_is (S : ByteArray) (w : World) (hs : S.size ≤ 100000) : Calls Tryd.prog 57 #[.string S] w (OwnDone (takenL S) w) := by
  have hmf := makeFunc_run
  obtain ⟨m, r1, b1, h1⟩ : ∃ (m : Nat) (r1 : ByteArray) (b1 : Bool), smallQ S false 3000 = ((m : Int), r1, b1) := by
    obtain ⟨⟨c, r1, b1⟩, h1⟩ : ∃ x, smallQ S false 3000 = x := ⟨_, rfl⟩
    have hk := smallQ_range h1 (by omega)
    exact ⟨c.toNat, r1, b1, by rw [h1, Int.toNat_of_nonneg hk.1]⟩
  have hm := smallQ_range h1 (by omega)
  have hT : takenF S = (serF m 3000 r1 b1).1 := by unfold takenF; rw [h1]; rfl
  have hin := takenL_inv S
  unfold takenL at hin ⊢
  rw [hT] at hin ⊢
  obtain ⟨T, hTT⟩ : ∃ T, (serF m 3000 r1 b1).1 = T := ⟨_, rfl⟩
  rw [hTT] at hin ⊢
  obtain ⟨hT1, -, hT2⟩ := hin
  have H1 := Lib.hid h1
  have H2 := Lib.hid hTT
  clear h1 hT hTT
  go_enter Tryd.func57, Tryd.ntmps57
  go_upto_region 2 with (go_at_call 83; (with_reducible refine (read_is _ _).mono ?_); rintro e w1 ⟨rfl, hA1, hb1, hz1⟩; (have HA1 := Lib.hid hA1); (have HB1 := Lib.hid hb1); clear hA1 hb1)
  obtain ⟨w2, hw2⟩ : ∃ x, w1.alloc (.cells #[.pointer (some ⟨w.heap.size, 0, none⟩)] 95) = x := ⟨_, rfl⟩
  have hal := (Below.refl w1.heap.size w1).alloc (Nat.le_refl _) (.cells #[.pointer (some ⟨w.heap.size, 0, none⟩)] 95)
  have hzr : (w1.alloc (.cells #[.pointer (some ⟨w.heap.size, 0, none⟩)] 95)).cell? ⟨w1.heap.size, 0, none⟩ = some (.pointer (some ⟨w.heap.size, 0, none⟩)) := by simp [go_sem]
  rw [hw2] at hal hzr
  simp only [hw2]
  have HA2 := Lib.hid (HA1.out.below hal)
  have HB2 := Lib.hid (HB1.out.trans (hal.mono HB1.out.size))
  have hzl := World.block_lt_of_cell? _ _ hzr
  dsimp only at hzl
  have HZR := Lib.hid hzr
  clear hw2 hal HA1 HB1
  obtain ⟨d, hd⟩ : ∃ d, w.heap.size = d := ⟨_, rfl⟩
  obtain ⟨zr, hzq⟩ : ∃ z, w1.heap.size = z := ⟨_, rfl⟩
  have hne : zr ≠ d := by omega
  have hdl : d < w2.heap.size := by omega
  have HD := Lib.hid hd
  simp only [hd, hzq] at hzr hzl ⊢
  rw [hd] at HA2
  rw [hd, hzq] at HZR
  clear hd hzq hz1
  go_cut [4, 5, 6] from 12 (fun v4 v5 v6 W => ∃ zt zs zi, v4 = .pointer (some ⟨zt, 0, none⟩) ∧ v5 = .pointer (some ⟨zs, 0, none⟩) ∧ v6 = .pointer (some ⟨zi, 0, none⟩) ∧ W.cell? ⟨zt, 0, none⟩ = some (.func (.func 84) #[.pointer (some ⟨d, 0, none⟩)] #[]) ∧ W.cell? ⟨zs, 0, none⟩ = some (.func (.func 85) #[.pointer (some ⟨d, 0, none⟩)] #[]) ∧ W.cell? ⟨zi, 0, none⟩ = some (.func (.func 86) #[.pointer (some ⟨d, 0, none⟩)] #[]) ∧ w2.heap.size ≤ zt ∧ w2.heap.size ≤ zs ∧ w2.heap.size ≤ zi ∧ Below w2.heap.size w2 W)
  case first =>
    refine wp_region_held_drew (S := (fun W => W.cell? ⟨zr, 0, none⟩ = some (.pointer (some ⟨d, 0, none⟩)))) (by kernel_rfl) hzr (fun hHeld => ?_)
    refine wpAnyH_take (i := 0) (oi := ?tk1o) (v := ?tk1v) ?tk1h (by kernel_rfl) (by kernel_rfl) (by kernel_rfl) ?tk1q ?tk1y hHeld ?tk1r
    case tk1h => (simp only [List.getElem?_toArray, List.getElem?_cons_zero]; rfl)
    case tk1q => exact fun _ _ _ h => h
    case tk1y => (refine Or.inl ⟨by first | kernel_rfl | rfl, ?_⟩; intro w hSw; (try dsimp only at hSw); go_simp <;> (try with_reducible rfl))
    try simp only [Act.put, List.setIfInBounds_toArray, List.set_cons_zero, List.set_cons_succ]
    refine wpAnyH_take (i := 1) (oi := ?tk2o) (v := ?tk2v) ?tk2h (by kernel_rfl) (by kernel_rfl) (by kernel_rfl) ?tk2q ?tk2y hHeld ?tk2r
    case tk2h => (simp only [List.getElem?_toArray, List.getElem?_cons_succ, List.getElem?_cons_zero]; rfl)
    case tk2q => exact fun _ _ _ h => h
    case tk2y => (refine Or.inl ⟨by first | kernel_rfl | rfl, ?_⟩; intro w hSw; (try dsimp only at hSw); go_simp <;> (try with_reducible rfl))
    try simp only [Act.put, List.setIfInBounds_toArray, List.set_cons_zero, List.set_cons_succ]
    refine wpAnyH_take (i := 2) (oi := ?tk3o) (v := ?tk3v) ?tk3h (by kernel_rfl) (by kernel_rfl) (by kernel_rfl) ?tk3q ?tk3y hHeld ?tk3r
    case tk3h => (simp only [List.getElem?_toArray, List.getElem?_cons_succ, List.getElem?_cons_zero]; rfl)
    case tk3q => exact fun _ _ _ h => h
    case tk3y => (refine Or.inl ⟨by first | kernel_rfl | rfl, ?_⟩; intro w hSw; (try dsimp only at hSw); go_simp <;> (try with_reducible rfl))
    try simp only [Act.put, List.setIfInBounds_toArray, List.set_cons_zero, List.set_cons_succ]
    refine wpAnyH_take (i := 3) (oi := ?tk4o) (v := ?tk4v) ?tk4h (by kernel_rfl) (by kernel_rfl) (by kernel_rfl) ?tk4q ?tk4y hHeld ?tk4r
    case tk4h => (simp only [List.getElem?_toArray, List.getElem?_cons_succ, List.getElem?_cons_zero]; rfl)
    case tk4q => exact fun _ _ _ h => h
    case tk4y => (refine Or.inl ⟨by first | kernel_rfl | rfl, ?_⟩; intro w hSw; (try dsimp only at hSw); go_simp <;> (try with_reducible rfl))
    try simp only [Act.put, List.setIfInBounds_toArray, List.set_cons_zero, List.set_cons_succ]
    refine wpAnyH_take (i := 4) (oi := ?tk5o) (v := ?tk5v) ?tk5h (by kernel_rfl) (by kernel_rfl) (by kernel_rfl) ?tk5q ?tk5y hHeld ?tk5r
    case tk5h => (simp only [List.getElem?_toArray, List.getElem?_cons_succ, List.getElem?_cons_zero]; rfl)
    case tk5q => exact fun _ _ _ h => h
    case tk5y => (refine Or.inl ⟨by first | kernel_rfl | rfl, ?_⟩; intro w hSw; (try dsimp only at hSw); go_simp <;> (try with_reducible rfl))
    try simp only [Act.put, List.setIfInBounds_toArray, List.set_cons_zero, List.set_cons_succ]
    refine wpAnyH_take (i := 5) (oi := ?tk6o) (v := ?tk6v) ?tk6h (by kernel_rfl) (by kernel_rfl) (by kernel_rfl) ?tk6q ?tk6y hHeld ?tk6r
    case tk6h => (simp only [List.getElem?_toArray, List.getElem?_cons_succ, List.getElem?_cons_zero]; rfl)
    case tk6q => exact fun _ _ _ h => h
    case tk6y => (refine Or.inl ⟨by first | kernel_rfl | rfl, ?_⟩; intro w hSw; (try dsimp only at hSw); go_simp <;> (try with_reducible rfl))
    try simp only [Act.put, List.setIfInBounds_toArray, List.set_cons_zero, List.set_cons_succ]
    refine wpAnyH_ready (rs := [6, 7, 8]) (by kernel_rfl) (by simp) ?_
    refine (AllReadyH.cons rfl (fun K hK => ?_) (AllReadyH.cons rfl (fun K hK => ?_) (AllReadyH.cons rfl (fun K hK => ?_) AllReadyH.nil)))
    ·
      go_simp
      skip
      refine hK.out _ _ ((keepA12 hHeld)) (fun hHeld => ?_)
      clear hK K
      try simp only [Act.put, List.setIfInBounds_toArray, List.set_cons_zero, List.set_cons_succ]
      refine wpAnyH_ready (rs := [7, 8]) (by kernel_rfl) (by simp) ?_
      refine (AllReadyH.cons rfl (fun K hK => ?_) (AllReadyH.cons rfl (fun K hK => ?_) AllReadyH.nil))
      ·
        go_simp
        skip
        refine hK.out _ _ ((keepA12 hHeld)) (fun hHeld => ?_)
        clear hK K
        try simp only [Act.put, List.setIfInBounds_toArray, List.set_cons_zero, List.set_cons_succ]
        refine wpAnyH_ready (rs := [8]) (by kernel_rfl) (by simp) ?_
        refine (AllReadyH.cons rfl (fun K hK => ?_) AllReadyH.nil)
        go_simp
        skip
        refine hK.out _ _ ((keepA12 hHeld)) (fun hHeld => ?_)
        clear hK K
        try simp only [Act.put, List.setIfInBounds_toArray, List.set_cons_zero, List.set_cons_succ]
        refine wpAnyH_ready (rs := [9]) (by kernel_rfl) (by simp) ?_
        refine (AllReadyH.cons rfl (fun K hK => ?_) AllReadyH.nil)
        go_simp
        skip
        refine hK.out _ _ ((keepA12 (keepA12 (keepA12 hzr)))) (fun hHeld => ?_)
        clear hK K
        try simp only [Act.put]
        refine wpAnyH_ready (rs := [10]) (by kernel_rfl) (by simp) ?_
        refine (AllReadyH.cons rfl (fun K hK => ?_) AllReadyH.nil)
        go_simp
        skip
        refine hK.out _ _ ((keepA12 (keepA12 (keepA12 hzr)))) (fun hHeld => ?_)
        clear hK K
        try simp only [Act.put]
        refine wpAnyH_ready (rs := [11]) (by kernel_rfl) (by simp) ?_
        refine (AllReadyH.cons rfl (fun K hK => ?_) AllReadyH.nil)
        go_simp
        skip
        refine hK.out _ _ ((keepA12 (keepA12 (keepA12 hzr)))) (fun hHeld => ?_)
        clear hK K
        try simp only [Act.put]
        refine wpAnyH_done (by kernel_rfl) ?_ _
        go_wp2_with fail
        go_meet
        case rel => exact ⟨_, _, _, rfl, rfl, rfl, by simp [go_sem], by simp [go_sem], by simp [go_sem], by first | (simp; done) | (simp; omega) | omega, by first | (simp; done) | (simp; omega) | omega, by first | (simp; done) | (simp; omega) | omega, by (repeat (first | exact Below.refl _ _ | refine Below.drew ?_ | (refine Below.setCell ?_ (by first | (simp; done) | (simp; omega)) _) | (refine Below.alloc ?_ (by first | (simp; done) | (simp; omega)) _)))⟩
      ·
        go_simp
        skip
        refine hK.out _ _ ((keepA12 hHeld)) (fun hHeld => ?_)
        clear hK K
        try simp only [Act.put, List.setIfInBounds_toArray, List.set_cons_zero, List.set_cons_succ]
        refine wpAnyH_ready (rs := [7]) (by kernel_rfl) (by simp) ?_
        refine (AllReadyH.cons rfl (fun K hK => ?_) AllReadyH.nil)
        go_simp
        skip
        refine hK.out _ _ ((keepA12 hHeld)) (fun hHeld => ?_)
        clear hK K
        try simp only [Act.put, List.setIfInBounds_toArray, List.set_cons_zero, List.set_cons_succ]
        refine wpAnyH_ready (rs := [9]) (by kernel_rfl) (by simp) ?_
        refine (AllReadyH.cons rfl (fun K hK => ?_) AllReadyH.nil)
        go_simp
        skip
        refine hK.out _ _ ((keepA12 (keepA12 (keepA12 hzr)))) (fun hHeld => ?_)
        clear hK K
        try simp only [Act.put]
        refine wpAnyH_ready (rs := [10]) (by kernel_rfl) (by simp) ?_
        refine (AllReadyH.cons rfl (fun K hK => ?_) AllReadyH.nil)
        go_simp
        skip
        refine hK.out _ _ ((keepA12 (keepA12 (keepA12 hzr)))) (fun hHeld => ?_)
        clear hK K
        try simp only [Act.put]
        refine wpAnyH_ready (rs := [11]) (by kernel_rfl) (by simp) ?_
        refine (AllReadyH.cons rfl (fun K hK => ?_) AllReadyH.nil)
        go_simp
        skip
        refine hK.out _ _ ((keepA12 (keepA12 (keepA12 hzr)))) (fun hHeld => ?_)
        clear hK K
        try simp only [Act.put]
        refine wpAnyH_done (by kernel_rfl) ?_ _
        go_wp2_with fail
        go_meet
        case rel => exact ⟨_, _, _, rfl, rfl, rfl, by simp [go_sem], by simp [go_sem], by simp [go_sem], by first | (simp; done) | (simp; omega) | omega, by first | (simp; done) | (simp; omega) | omega, by first | (simp; done) | (simp; omega) | omega, by (repeat (first | exact Below.refl _ _ | refine Below.drew ?_ | (refine Below.setCell ?_ (by first | (simp; done) | (simp; omega)) _) | (refine Below.alloc ?_ (by first | (simp; done) | (simp; omega)) _)))⟩
    ·
      go_simp
      skip
      refine hK.out _ _ ((keepA12 hHeld)) (fun hHeld => ?_)
      clear hK K
      try simp only [Act.put, List.setIfInBounds_toArray, List.set_cons_zero, List.set_cons_succ]
      refine wpAnyH_ready (rs := [6, 8]) (by kernel_rfl) (by simp) ?_
      refine (AllReadyH.cons rfl (fun K hK => ?_) (AllReadyH.cons rfl (fun K hK => ?_) AllReadyH.nil))
      ·
        go_simp
        skip
        refine hK.out _ _ ((keepA12 hHeld)) (fun hHeld => ?_)
        clear hK K
        try simp only [Act.put, List.setIfInBounds_toArray, List.set_cons_zero, List.set_cons_succ]
        refine wpAnyH_ready (rs := [8]) (by kernel_rfl) (by simp) ?_
        refine (AllReadyH.cons rfl (fun K hK => ?_) AllReadyH.nil)
        go_simp
        skip
        refine hK.out _ _ ((keepA12 hHeld)) (fun hHeld => ?_)
        clear hK K
        try simp only [Act.put, List.setIfInBounds_toArray, List.set_cons_zero, List.set_cons_succ]
        refine wpAnyH_ready (rs := [9]) (by kernel_rfl) (by simp) ?_
        refine (AllReadyH.cons rfl (fun K hK => ?_) AllReadyH.nil)
        go_simp
        skip
        refine hK.out _ _ ((keepA12 (keepA12 (keepA12 hzr)))) (fun hHeld => ?_)
        clear hK K
        try simp only [Act.put]
        refine wpAnyH_ready (rs := [10]) (by kernel_rfl) (by simp) ?_
        refine (AllReadyH.cons rfl (fun K hK => ?_) AllReadyH.nil)
        go_simp
        skip
        refine hK.out _ _ ((keepA12 (keepA12 (keepA12 hzr)))) (fun hHeld => ?_)
        clear hK K
        try simp only [Act.put]
        refine wpAnyH_ready (rs := [11]) (by kernel_rfl) (by simp) ?_
        refine (AllReadyH.cons rfl (fun K hK => ?_) AllReadyH.nil)
        go_simp
        skip
        refine hK.out _ _ ((keepA12 (keepA12 (keepA12 hzr)))) (fun hHeld => ?_)
        clear hK K
        try simp only [Act.put]
        refine wpAnyH_done (by kernel_rfl) ?_ _
        go_wp2_with fail
        go_meet
        case rel => exact ⟨_, _, _, rfl, rfl, rfl, by simp [go_sem], by simp [go_sem], by simp [go_sem], by first | (simp; done) | (simp; omega) | omega, by first | (simp; done) | (simp; omega) | omega, by first | (simp; done) | (simp; omega) | omega, by (repeat (first | exact Below.refl _ _ | refine Below.drew ?_ | (refine Below.setCell ?_ (by first | (simp; done) | (simp; omega)) _) | (refine Below.alloc ?_ (by first | (simp; done) | (simp; omega)) _)))⟩
      ·
        go_simp
        skip
        refine hK.out _ _ ((keepA12 hHeld)) (fun hHeld => ?_)
        clear hK K
        try simp only [Act.put, List.setIfInBounds_toArray, List.set_cons_zero, List.set_cons_succ]
        refine wpAnyH_ready (rs := [6]) (by kernel_rfl) (by simp) ?_
        refine (AllReadyH.cons rfl (fun K hK => ?_) AllReadyH.nil)
        go_simp
        skip
        refine hK.out _ _ ((keepA12 hHeld)) (fun hHeld => ?_)
        clear hK K
        try simp only [Act.put, List.setIfInBounds_toArray, List.set_cons_zero, List.set_cons_succ]
        refine wpAnyH_ready (rs := [9]) (by kernel_rfl) (by simp) ?_
        refine (AllReadyH.cons rfl (fun K hK => ?_) AllReadyH.nil)
        go_simp
        skip
        refine hK.out _ _ ((keepA12 (keepA12 (keepA12 hzr)))) (fun hHeld => ?_)
        clear hK K
        try simp only [Act.put]
        refine wpAnyH_ready (rs := [10]) (by kernel_rfl) (by simp) ?_
        refine (AllReadyH.cons rfl (fun K hK => ?_) AllReadyH.nil)
        go_simp
        skip
        refine hK.out _ _ ((keepA12 (keepA12 (keepA12 hzr)))) (fun hHeld => ?_)
        clear hK K
        try simp only [Act.put]
        refine wpAnyH_ready (rs := [11]) (by kernel_rfl) (by simp) ?_
        refine (AllReadyH.cons rfl (fun K hK => ?_) AllReadyH.nil)
        go_simp
        skip
        refine hK.out _ _ ((keepA12 (keepA12 (keepA12 hzr)))) (fun hHeld => ?_)
        clear hK K
        try simp only [Act.put]
        refine wpAnyH_done (by kernel_rfl) ?_ _
        go_wp2_with fail
        go_meet
        case rel => exact ⟨_, _, _, rfl, rfl, rfl, by simp [go_sem], by simp [go_sem], by simp [go_sem], by first | (simp; done) | (simp; omega) | omega, by first | (simp; done) | (simp; omega) | omega, by first | (simp; done) | (simp; omega) | omega, by (repeat (first | exact Below.refl _ _ | refine Below.drew ?_ | (refine Below.setCell ?_ (by first | (simp; done) | (simp; omega)) _) | (refine Below.alloc ?_ (by first | (simp; done) | (simp; omega)) _)))⟩
    ·
      go_simp
      skip
      refine hK.out _ _ ((keepA12 hHeld)) (fun hHeld => ?_)
      clear hK K
      try simp only [Act.put, List.setIfInBounds_toArray, List.set_cons_zero, List.set_cons_succ]
      refine wpAnyH_ready (rs := [6, 7]) (by kernel_rfl) (by simp) ?_
      refine (AllReadyH.cons rfl (fun K hK => ?_) (AllReadyH.cons rfl (fun K hK => ?_) AllReadyH.nil))
      ·
        go_simp
        skip
        refine hK.out _ _ ((keepA12 hHeld)) (fun hHeld => ?_)
        clear hK K
        try simp only [Act.put, List.setIfInBounds_toArray, List.set_cons_zero, List.set_cons_succ]
        refine wpAnyH_ready (rs := [7]) (by kernel_rfl) (by simp) ?_
        refine (AllReadyH.cons rfl (fun K hK => ?_) AllReadyH.nil)
        go_simp
        skip
        refine hK.out _ _ ((keepA12 hHeld)) (fun hHeld => ?_)
        clear hK K
        try simp only [Act.put, List.setIfInBounds_toArray, List.set_cons_zero, List.set_cons_succ]
        refine wpAnyH_ready (rs := [9]) (by kernel_rfl) (by simp) ?_
        refine (AllReadyH.cons rfl (fun K hK => ?_) AllReadyH.nil)
        go_simp
        skip
        refine hK.out _ _ ((keepA12 (keepA12 (keepA12 hzr)))) (fun hHeld => ?_)
        clear hK K
        try simp only [Act.put]
        refine wpAnyH_ready (rs := [10]) (by kernel_rfl) (by simp) ?_
        refine (AllReadyH.cons rfl (fun K hK => ?_) AllReadyH.nil)
        go_simp
        skip
        refine hK.out _ _ ((keepA12 (keepA12 (keepA12 hzr)))) (fun hHeld => ?_)
        clear hK K
        try simp only [Act.put]
        refine wpAnyH_ready (rs := [11]) (by kernel_rfl) (by simp) ?_
        refine (AllReadyH.cons rfl (fun K hK => ?_) AllReadyH.nil)
        go_simp
        skip
        refine hK.out _ _ ((keepA12 (keepA12 (keepA12 hzr)))) (fun hHeld => ?_)
        clear hK K
        try simp only [Act.put]
        refine wpAnyH_done (by kernel_rfl) ?_ _
        go_wp2_with fail
        go_meet
        case rel => exact ⟨_, _, _, rfl, rfl, rfl, by simp [go_sem], by simp [go_sem], by simp [go_sem], by first | (simp; done) | (simp; omega) | omega, by first | (simp; done) | (simp; omega) | omega, by first | (simp; done) | (simp; omega) | omega, by (repeat (first | exact Below.refl _ _ | refine Below.drew ?_ | (refine Below.setCell ?_ (by first | (simp; done) | (simp; omega)) _) | (refine Below.alloc ?_ (by first | (simp; done) | (simp; omega)) _)))⟩
      ·
        go_simp
        skip
        refine hK.out _ _ ((keepA12 hHeld)) (fun hHeld => ?_)
        clear hK K
        try simp only [Act.put, List.setIfInBounds_toArray, List.set_cons_zero, List.set_cons_succ]
        refine wpAnyH_ready (rs := [6]) (by kernel_rfl) (by simp) ?_
        refine (AllReadyH.cons rfl (fun K hK => ?_) AllReadyH.nil)
        go_simp
        skip
        refine hK.out _ _ ((keepA12 hHeld)) (fun hHeld => ?_)
        clear hK K
        try simp only [Act.put, List.setIfInBounds_toArray, List.set_cons_zero, List.set_cons_succ]
        refine wpAnyH_ready (rs := [9]) (by kernel_rfl) (by simp) ?_
        refine (AllReadyH.cons rfl (fun K hK => ?_) AllReadyH.nil)
        go_simp
        skip
        refine hK.out _ _ ((keepA12 (keepA12 (keepA12 hzr)))) (fun hHeld => ?_)
        clear hK K
        try simp only [Act.put]
        refine wpAnyH_ready (rs := [10]) (by kernel_rfl) (by simp) ?_
        refine (AllReadyH.cons rfl (fun K hK => ?_) AllReadyH.nil)
        go_simp
        skip
        refine hK.out _ _ ((keepA12 (keepA12 (keepA12 hzr)))) (fun hHeld => ?_)
        clear hK K
        try simp only [Act.put]
        refine wpAnyH_ready (rs := [11]) (by kernel_rfl) (by simp) ?_
        refine (AllReadyH.cons rfl (fun K hK => ?_) AllReadyH.nil)
        go_simp
        skip
        refine hK.out _ _ ((keepA12 (keepA12 (keepA12 hzr)))) (fun hHeld => ?_)
        clear hK K
        try simp only [Act.put]
        refine wpAnyH_done (by kernel_rfl) ?_ _
        go_wp2_with fail
        go_meet
        case rel => exact ⟨_, _, _, rfl, rfl, rfl, by simp [go_sem], by simp [go_sem], by simp [go_sem], by first | (simp; done) | (simp; omega) | omega, by first | (simp; done) | (simp; omega) | omega, by first | (simp; done) | (simp; omega) | omega, by (repeat (first | exact Below.refl _ _ | refine Below.drew ?_ | (refine Below.setCell ?_ (by first | (simp; done) | (simp; omega)) _) | (refine Below.alloc ?_ (by first | (simp; done) | (simp; omega)) _)))⟩
  case rest =>
    obtain ⟨zt, zs, zi, rfl, rfl, rfl, ht, hs', hi', gt, gs, gi, hB⟩ := hcut
    have hA3 := HA2.out.below hB
    have hz3 := (hB.cell (p := ⟨zr, 0, none⟩) hzl).trans HZR.out
    have hzw := hB.size
    obtain ⟨L, hL⟩ : ∃ L, wc.heap.size = L := ⟨_, rfl⟩
    have tl := World.block_lt_of_cell? _ _ ht
    have sl := World.block_lt_of_cell? _ _ hs'
    have il := World.block_lt_of_cell? _ _ hi'
    dsimp only at tl sl il
    have k1 := (Below.refl wc.heap.size wc).alloc (Nat.le_refl _) (.cells #[.int .i64 3000] 3)
    obtain ⟨w4, hw4⟩ : ∃ x, (wc.alloc (.cells #[.int .i64 3000] 3)).alloc (.cells #[.func (.func 88) #[] #[.pointer (some ⟨zs, 0, none⟩), .pointer (some ⟨L, 0, none⟩)]] 97) = x := ⟨_, rfl⟩
    have k2 : Below wc.heap.size wc w4 := by rw [← hw4]; exact k1.alloc (by simp) _
    have hp4 : w4.cell? ⟨L + 1, 0, none⟩ = some (.func (.func 88) #[] #[.pointer (some ⟨zs, 0, none⟩), .pointer (some ⟨L, 0, none⟩)]) := by rw [← hw4, ← hL]; simp [go_sem]
    have hc4 : w4.cell? ⟨L, 0, none⟩ = some (.int .i64 3000) := by rw [← hw4, ← hL]; simp [go_sem]
    have hf4 : w4.frozen? ⟨L, 0, none⟩ = false := by rw [← hw4, ← hL]; simp [go_sem]
    have kl := lists_is d zr zt zs zi (L + 1) L m S r1 b1 T w4 hs (by omega) H1 H2 ⟨(k2.cell (p := ⟨zr, 0, none⟩) (by show zr < _; omega)).trans hz3, (k2.cell (p := ⟨zt, 0, none⟩) tl).trans ht, (k2.cell (p := ⟨zs, 0, none⟩) sl).trans hs', (k2.cell (p := ⟨zi, 0, none⟩) il).trans hi', by omega, by omega, by omega, by omega⟩ hp4 ⟨by omega, by omega⟩ (hA3.below k2) ⟨hc4, hf4, by omega⟩
    have HB4 := Lib.hid (HB2.out.trans ((hB.trans (k2.mono hB.size)).mono HB2.out.size))
    have HLD := Lib.hid (show w.heap.size ≤ L by have := HD.out; omega)
    clear k1 k2 hp4 hc4 hf4 ht hs' hi' hA3 hz3 hB HA2 HZR
    go_wp2_with (first
      | (go_at_call 89; (with_reducible refine kl.mono ?_); rintro e w5 ⟨a5, c5, rfl, hR5, hB5⟩; (have kc := concat_is a5 c5 T w5 hR5.lls (by omega) (by omega)); (have HB5 := Lib.hid (HB4.out.trans (hB5.below (B := w.heap.size) (fun k e => by have := HD.out; have := HLD.out; rcases e with rfl | rfl <;> omega) HB4.out.size))); clear hR5 hB5)
      | (go_at_call 36; (with_reducible refine kc.mono ?_); rintro e w6 ⟨v, rfl, hR6, hb6⟩))
    go_ret
    exact ⟨v, rfl, hR6.base HB5.out.size, bel_next HB5.out hb6⟩
end Go.Proofs.YtkomfenjeoaelaaDoor
