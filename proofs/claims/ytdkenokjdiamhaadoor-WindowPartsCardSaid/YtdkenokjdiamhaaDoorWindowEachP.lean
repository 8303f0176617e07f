/- The contract of the program's Each. -/
import Derived.Test.YtdkenokjdiamhaaDoorWindowWins
set_option maxRecDepth 20000
namespace Go.Proofs.YtdkenokjdiamhaaDoor
open Go.RowKit

/-- What Each's region holds. -/
structure EH (w W : World) (s : Sp) (tier : Int) : Prop where
  tab : Tab W
  at_ : SpAt W w.heap.size s
  t_ : W.cell? ⟨w.heap.size + 1, 0, none⟩ = some (.int .i64 tier)
  size : w.heap.size + 2 ≤ W.heap.size
  bel : Below w.heap.size w W
theorem EH.below {w W W' : World} {s : Sp} {tier : Int} (h : EH w W s tier) (k : Below W.heap.size W W') : EH w W' s tier :=
  ⟨h.tab.next k, h.at_.below k, (k.cell (p := ⟨w.heap.size + 1, 0, none⟩) (by have := h.size; show w.heap.size + 1 < _; omega)).trans h.t_, Nat.le_trans h.size k.size, bel_next h.bel k⟩
theorem EH.alloc {w W : World} {s : Sp} {tier : Int} (h : EH w W s tier) (o : Obj) : EH w (W.alloc o) s tier := h.below ((Below.refl _ _).alloc (Nat.le_refl _) o)
theorem EH.drew {w W : World} {s : Sp} {tier : Int} (h : EH w W s tier) : EH w W.drew s tier := h.below ((Below.refl _ _).drew)
theorem EH.set {w W : World} {s : Sp} {tier : Int} (h : EH w W s tier) (b j : Nat) (v : Value) (hb : w.heap.size + 2 ≤ b) (hg : 0 < w.heap.size) : EH w (W.setCell ⟨b, j, none⟩ v) s tier := by
  have k : Below (w.heap.size + 2) W (W.setCell ⟨b, j, none⟩ v) := (Below.refl _ W).setCell (p := ⟨b, j, none⟩) hb v
  exact ⟨h.tab.below k (by omega), ⟨(k.cell (p := ⟨w.heap.size, 0, none⟩) (by show w.heap.size < _; omega)).trans h.at_.c0, (k.cell (p := ⟨w.heap.size, 1, none⟩) (by show w.heap.size < _; omega)).trans h.at_.c1⟩,
    (k.cell (p := ⟨w.heap.size + 1, 0, none⟩) (by show w.heap.size + 1 < _; omega)).trans h.t_, Nat.le_trans h.size k.size, h.bel.trans (k.mono (by omega))⟩
/-- What Each answers. -/
def EachDone (s : Sp) (tier : Int) (w : World) (e : Ending) (w' : World) : Prop := ∃ Bc Bw Bt, e = .returned (ECL Bc Bw Bt) ∧ (w.heap.size ≤ Bc ∧ w.heap.size ≤ Bw ∧ w.heap.size ≤ Bt) ∧ EachAt w' Bc Bw Bt (s.cover tier) (wid tier) tier ∧ Below w.heap.size w w'
set_option maxHeartbeats 8000000 in
theorem each_is (s : Sp) (tier : Int) (w : World) (hT : Tab w) : Calls Tryd.prog 17 #[s.v, .int .i64 tier] w (EachDone s tier w) := by
  have hmf : ∀ (fn : Fn) (first cap : Array Value) (w : World), (Instr.makeFunc fn first cap).run Tryd.prog w = .ok (.func fn first cap) w := fun _ _ _ _ => rfl
  have hE0 : EH w (((w.alloc (.cells #[.int .i64 s.f, .int .i64 s.t] 26)).alloc (.cells #[.int .i64 tier] 3))) s tier :=
    ⟨(hT.alloc _).alloc _, (SpAt.new w s 26).below ((Below.refl _ _).alloc (Nat.le_refl _) _), by simp [go_sem], by simp, bel_new ((Below.refl w.heap.size w).alloc (Nat.le_refl _) _) _⟩
  have kc := fun w hT => cover_is s _ tier w hT (Lib.hid rfl)
  have kw := fun w hT => width_is tier _ w hT (Lib.hid rfl)
  obtain ⟨c, hc⟩ : ∃ c, s.cover tier = c := ⟨_, rfl⟩
  obtain ⟨W, hW⟩ : ∃ W, wid tier = W := ⟨_, rfl⟩
  rw [hc] at kc
  rw [hW] at kw
  have hg := hT.room
  have HC := Lib.hid hc
  have HW := Lib.hid hW
  have hED := hE0.drew
  have HE := Lib.hid hED
  unfold Sp.v at kc ⊢
  clear hc hW
  go_enter Tryd.func17, Tryd.ntmps17
  go_wp2_with fail
  refine wp_region_held_drew (S := (EH w · s tier)) (by kernel_rfl) HE.out (fun hHeld => ?_)
  refine wpAnyH_take (i := 0) (oi := ?oe1o) (v := ?oe1v) ?oe1h (by kernel_rfl) (by kernel_rfl) (by kernel_rfl) ?oe1q ?oe1y hHeld ?oe1r
  case oe1h => (simp only [List.getElem?_toArray, List.getElem?_cons_zero]; rfl)
  case oe1q => exact fun _ _ _ h => h
  case oe1y => (refine Or.inl ⟨by first | kernel_rfl | rfl, ?_⟩; intro w hSw; (try dsimp only at hSw); obtain ⟨-, ⟨y0, y1⟩, y2, -, -⟩ := hSw; go_simp <;> (try with_reducible rfl))
  try simp only [Act.put, List.setIfInBounds_toArray, List.set_cons_zero, List.set_cons_succ]
  refine wpAnyH_take (i := 1) (oi := ?oe2o) (v := ?oe2v) ?oe2h (by kernel_rfl) (by kernel_rfl) (by kernel_rfl) ?oe2q ?oe2y hHeld ?oe2r
  case oe2h => (simp only [List.getElem?_toArray, List.getElem?_cons_succ, List.getElem?_cons_zero]; rfl)
  case oe2q => exact fun _ _ _ h => h
  case oe2y => (refine Or.inl ⟨by first | kernel_rfl | rfl, ?_⟩; intro w hSw; (try dsimp only at hSw); obtain ⟨-, ⟨y0, y1⟩, y2, -, -⟩ := hSw; go_simp <;> (try with_reducible rfl))
  try simp only [Act.put, List.setIfInBounds_toArray, List.set_cons_zero, List.set_cons_succ]
  refine wpAnyH_take (i := 3) (oi := ?oe3o) (v := ?oe3v) ?oe3h (by kernel_rfl) (by kernel_rfl) (by kernel_rfl) ?oe3q ?oe3y hHeld ?oe3r
  case oe3h => (simp only [List.getElem?_toArray, List.getElem?_cons_succ, List.getElem?_cons_zero]; rfl)
  case oe3q => exact fun _ _ _ h => h
  case oe3y => (refine Or.inl ⟨by first | kernel_rfl | rfl, ?_⟩; intro w hSw; (try dsimp only at hSw); obtain ⟨-, ⟨y0, y1⟩, y2, -, -⟩ := hSw; go_simp <;> (try with_reducible rfl))
  try simp only [Act.put, List.setIfInBounds_toArray, List.set_cons_zero, List.set_cons_succ]
  refine wpAnyH_ready (rs := [2, 5, 6]) (by kernel_rfl) (by simp) ?_
  refine (AllReadyH.cons rfl (fun K hK => ?_) (AllReadyH.cons rfl (fun K hK => ?_) (AllReadyH.cons rfl (fun K hK => ?_) AllReadyH.nil)))
  ·
    go_simp
    ((with_reducible refine (kc _ hHeld.tab).mono ?_); rintro e w5 ⟨rfl, hb5⟩; (have hz5 := hb5.size); (have q20c := hb5.cell (p := ⟨w.heap.size + 1 + 1, 0, none⟩)); (try simp [go_sem] at q20c); (have q20f := hb5.frozen (p := ⟨w.heap.size + 1 + 1, 0, none⟩)); (try simp [go_sem] at q20f); (have q21c := hb5.cell (p := ⟨w.heap.size + 1 + 1, 1, none⟩)); (try simp [go_sem] at q21c); (have q21f := hb5.frozen (p := ⟨w.heap.size + 1 + 1, 1, none⟩)); (try simp [go_sem] at q21f); (have q30c := hb5.cell (p := ⟨w.heap.size + 1 + 1 + 1, 0, none⟩)); (try simp [go_sem] at q30c); (have q30f := hb5.frozen (p := ⟨w.heap.size + 1 + 1 + 1, 0, none⟩)); (try simp [go_sem] at q30f); (have q31c := hb5.cell (p := ⟨w.heap.size + 1 + 1 + 1, 1, none⟩)); (try simp [go_sem] at q31c); (have q31f := hb5.frozen (p := ⟨w.heap.size + 1 + 1 + 1, 1, none⟩)); (try simp [go_sem] at q31f); (try simp at hz5); (have hne0 := fun h : w.heap.size + 1 + 1 + 1 ≤ w5.heap.size => (show (¬ w.heap.size + 1 + 1 = w5.heap.size) ∧ (¬ w5.heap.size = w.heap.size + 1 + 1) from ⟨by omega, by omega⟩)); (try (have hne := hne0 hz5; obtain ⟨n1, n2⟩ := hne)); clear hne0; (try (have qa0 := fun (o : Obj) => ((Below.refl w5.heap.size w5).alloc (Nat.le_refl _) o).cell (p := ⟨w.heap.size + 1 + 1, 0, none⟩) hz5)); (try (have qa1 := fun (o : Obj) => ((Below.refl w5.heap.size w5).alloc (Nat.le_refl _) o).cell (p := ⟨w.heap.size + 1 + 1, 1, none⟩) hz5)); (try (have qb0 := fun (o : Obj) => ((Below.refl w5.heap.size w5).alloc (Nat.le_refl _) o).frozen (p := ⟨w.heap.size + 1 + 1, 0, none⟩) hz5)); (try (have qb1 := fun (o : Obj) => ((Below.refl w5.heap.size w5).alloc (Nat.le_refl _) o).frozen (p := ⟨w.heap.size + 1 + 1, 1, none⟩) hz5)); have hH5 := hHeld.below hb5)
    refine hK.out _ _ (hH5) (fun hHeld => ?_)
    clear hK K
    try simp only [Act.put, List.setIfInBounds_toArray, List.set_cons_zero, List.set_cons_succ]
    refine wpAnyH_ready (rs := [4, 5, 6]) (by kernel_rfl) (by simp) ?_
    refine (AllReadyH.cons rfl (fun K hK => ?_) (AllReadyH.cons rfl (fun K hK => ?_) (AllReadyH.cons rfl (fun K hK => ?_) AllReadyH.nil)))
    ·
      go_simp
      ((with_reducible refine (kw _ hHeld.tab).mono ?_); rintro e w6 ⟨rfl, rfl⟩)
      refine hK.out _ _ (hHeld) (fun hHeld => ?_)
      clear hK K
      try simp only [Act.put, List.setIfInBounds_toArray, List.set_cons_zero, List.set_cons_succ]
      refine wpAnyH_ready (rs := [5, 6]) (by kernel_rfl) (by simp) ?_
      refine (AllReadyH.cons rfl (fun K hK => ?_) (AllReadyH.cons rfl (fun K hK => ?_) AllReadyH.nil))
      ·
        go_simp
        skip
        refine hK.out _ _ (by repeat' (first | assumption | with_reducible refine EH.drew ?_ | with_reducible refine EH.alloc ?_ _ | (with_reducible refine EH.set ?_ _ _ _ ?_ ?_) | omega | (simp; omega))) (fun hHeld => ?_)
        clear hK K
        try simp only [Act.put, List.setIfInBounds_toArray, List.set_cons_zero, List.set_cons_succ]
        refine wpAnyH_ready (rs := [6]) (by kernel_rfl) (by simp) ?_
        refine (AllReadyH.cons rfl (fun K hK => ?_) AllReadyH.nil)
        go_simp
        skip
        refine hK.out _ _ (by repeat' (first | assumption | with_reducible refine EH.drew ?_ | with_reducible refine EH.alloc ?_ _ | (with_reducible refine EH.set ?_ _ _ _ ?_ ?_) | omega | (simp; omega))) (fun hHeld => ?_)
        clear hK K
        try simp only [Act.put, List.setIfInBounds_toArray, List.set_cons_zero, List.set_cons_succ]
        refine wpAnyH_ready (rs := [7]) (by kernel_rfl) (by simp) ?_
        refine (AllReadyH.cons rfl (fun K hK => ?_) AllReadyH.nil)
        go_simp
        skip
        refine hK.out _ _ (by repeat' (first | assumption | with_reducible refine EH.drew ?_ | with_reducible refine EH.alloc ?_ _ | (with_reducible refine EH.set ?_ _ _ _ ?_ ?_) | omega | (simp; omega))) (fun hHeld => ?_)
        clear hK K
        try simp only [Act.put, List.setIfInBounds_toArray, List.set_cons_zero, List.set_cons_succ]
        refine wpAnyH_ready (rs := [8]) (by kernel_rfl) (by simp) ?_
        refine (AllReadyH.cons rfl (fun K hK => ?_) AllReadyH.nil)
        go_simp
        skip
        refine hK.out _ _ (by repeat' (first | assumption | with_reducible refine EH.drew ?_ | with_reducible refine EH.alloc ?_ _ | (with_reducible refine EH.set ?_ _ _ _ ?_ ?_) | omega | (simp; omega))) (fun hHeld => ?_)
        clear hK K
        try simp only [Act.put, List.setIfInBounds_toArray, List.set_cons_zero, List.set_cons_succ]
        refine wpAnyH_done (by kernel_rfl) ?_ _
        go_wp2
        go_ret
        refine ⟨_, _, _, rfl, ⟨by first | omega | (simp; omega), by first | omega | (simp; omega), by omega⟩, ?_, hHeld.bel⟩
        rw [HC.out, HW.out]
        exact ⟨hHeld.tab, ⟨by simp [go_sem, *], by simp [go_sem, *]⟩, by simp [go_sem, *], hHeld.t_⟩
      ·
        go_simp
        skip
        refine hK.out _ _ (by repeat' (first | assumption | with_reducible refine EH.drew ?_ | with_reducible refine EH.alloc ?_ _ | (with_reducible refine EH.set ?_ _ _ _ ?_ ?_) | omega | (simp; omega))) (fun hHeld => ?_)
        clear hK K
        try simp only [Act.put, List.setIfInBounds_toArray, List.set_cons_zero, List.set_cons_succ]
        refine wpAnyH_ready (rs := [5]) (by kernel_rfl) (by simp) ?_
        refine (AllReadyH.cons rfl (fun K hK => ?_) AllReadyH.nil)
        go_simp
        skip
        refine hK.out _ _ (by repeat' (first | assumption | with_reducible refine EH.drew ?_ | with_reducible refine EH.alloc ?_ _ | (with_reducible refine EH.set ?_ _ _ _ ?_ ?_) | omega | (simp; omega))) (fun hHeld => ?_)
        clear hK K
        try simp only [Act.put, List.setIfInBounds_toArray, List.set_cons_zero, List.set_cons_succ]
        refine wpAnyH_ready (rs := [7]) (by kernel_rfl) (by simp) ?_
        refine (AllReadyH.cons rfl (fun K hK => ?_) AllReadyH.nil)
        go_simp
        skip
        refine hK.out _ _ (by repeat' (first | assumption | with_reducible refine EH.drew ?_ | with_reducible refine EH.alloc ?_ _ | (with_reducible refine EH.set ?_ _ _ _ ?_ ?_) | omega | (simp; omega))) (fun hHeld => ?_)
        clear hK K
        try simp only [Act.put, List.setIfInBounds_toArray, List.set_cons_zero, List.set_cons_succ]
        refine wpAnyH_ready (rs := [8]) (by kernel_rfl) (by simp) ?_
        refine (AllReadyH.cons rfl (fun K hK => ?_) AllReadyH.nil)
        go_simp
        skip
        refine hK.out _ _ (by repeat' (first | assumption | with_reducible refine EH.drew ?_ | with_reducible refine EH.alloc ?_ _ | (with_reducible refine EH.set ?_ _ _ _ ?_ ?_) | omega | (simp; omega))) (fun hHeld => ?_)
        clear hK K
        try simp only [Act.put, List.setIfInBounds_toArray, List.set_cons_zero, List.set_cons_succ]
        refine wpAnyH_done (by kernel_rfl) ?_ _
        go_wp2
        go_ret
        refine ⟨_, _, _, rfl, ⟨by first | omega | (simp; omega), by first | omega | (simp; omega), by omega⟩, ?_, hHeld.bel⟩
        rw [HC.out, HW.out]
        exact ⟨hHeld.tab, ⟨by simp [go_sem, *], by simp [go_sem, *]⟩, by simp [go_sem, *], hHeld.t_⟩
    ·
      go_simp
      skip
      refine hK.out _ _ (by repeat' (first | assumption | with_reducible refine EH.drew ?_ | with_reducible refine EH.alloc ?_ _ | (with_reducible refine EH.set ?_ _ _ _ ?_ ?_) | omega | (simp; omega))) (fun hHeld => ?_)
      clear hK K
      try simp only [Act.put, List.setIfInBounds_toArray, List.set_cons_zero, List.set_cons_succ]
      refine wpAnyH_ready (rs := [4, 6]) (by kernel_rfl) (by simp) ?_
      refine (AllReadyH.cons rfl (fun K hK => ?_) (AllReadyH.cons rfl (fun K hK => ?_) AllReadyH.nil))
      ·
        go_simp
        ((with_reducible refine (kw _ hHeld.tab).mono ?_); rintro e w6 ⟨rfl, rfl⟩)
        refine hK.out _ _ (hHeld) (fun hHeld => ?_)
        clear hK K
        try simp only [Act.put, List.setIfInBounds_toArray, List.set_cons_zero, List.set_cons_succ]
        refine wpAnyH_ready (rs := [6]) (by kernel_rfl) (by simp) ?_
        refine (AllReadyH.cons rfl (fun K hK => ?_) AllReadyH.nil)
        go_simp
        skip
        refine hK.out _ _ (by repeat' (first | assumption | with_reducible refine EH.drew ?_ | with_reducible refine EH.alloc ?_ _ | (with_reducible refine EH.set ?_ _ _ _ ?_ ?_) | omega | (simp; omega))) (fun hHeld => ?_)
        clear hK K
        try simp only [Act.put, List.setIfInBounds_toArray, List.set_cons_zero, List.set_cons_succ]
        refine wpAnyH_ready (rs := [7]) (by kernel_rfl) (by simp) ?_
        refine (AllReadyH.cons rfl (fun K hK => ?_) AllReadyH.nil)
        go_simp
        skip
        refine hK.out _ _ (by repeat' (first | assumption | with_reducible refine EH.drew ?_ | with_reducible refine EH.alloc ?_ _ | (with_reducible refine EH.set ?_ _ _ _ ?_ ?_) | omega | (simp; omega))) (fun hHeld => ?_)
        clear hK K
        try simp only [Act.put, List.setIfInBounds_toArray, List.set_cons_zero, List.set_cons_succ]
        refine wpAnyH_ready (rs := [8]) (by kernel_rfl) (by simp) ?_
        refine (AllReadyH.cons rfl (fun K hK => ?_) AllReadyH.nil)
        go_simp
        skip
        refine hK.out _ _ (by repeat' (first | assumption | with_reducible refine EH.drew ?_ | with_reducible refine EH.alloc ?_ _ | (with_reducible refine EH.set ?_ _ _ _ ?_ ?_) | omega | (simp; omega))) (fun hHeld => ?_)
        clear hK K
        try simp only [Act.put, List.setIfInBounds_toArray, List.set_cons_zero, List.set_cons_succ]
        refine wpAnyH_done (by kernel_rfl) ?_ _
        go_wp2
        go_ret
        refine ⟨_, _, _, rfl, ⟨by first | omega | (simp; omega), by first | omega | (simp; omega), by omega⟩, ?_, hHeld.bel⟩
        rw [HC.out, HW.out]
        exact ⟨hHeld.tab, ⟨by simp [go_sem, *], by simp [go_sem, *]⟩, by simp [go_sem, *], hHeld.t_⟩
      ·
        go_simp
        skip
        refine hK.out _ _ (by repeat' (first | assumption | with_reducible refine EH.drew ?_ | with_reducible refine EH.alloc ?_ _ | (with_reducible refine EH.set ?_ _ _ _ ?_ ?_) | omega | (simp; omega))) (fun hHeld => ?_)
        clear hK K
        try simp only [Act.put, List.setIfInBounds_toArray, List.set_cons_zero, List.set_cons_succ]
        refine wpAnyH_ready (rs := [4]) (by kernel_rfl) (by simp) ?_
        refine (AllReadyH.cons rfl (fun K hK => ?_) AllReadyH.nil)
        go_simp
        ((with_reducible refine (kw _ hHeld.tab).mono ?_); rintro e w6 ⟨rfl, rfl⟩)
        refine hK.out _ _ (hHeld) (fun hHeld => ?_)
        clear hK K
        try simp only [Act.put, List.setIfInBounds_toArray, List.set_cons_zero, List.set_cons_succ]
        refine wpAnyH_ready (rs := [7]) (by kernel_rfl) (by simp) ?_
        refine (AllReadyH.cons rfl (fun K hK => ?_) AllReadyH.nil)
        go_simp
        skip
        refine hK.out _ _ (by repeat' (first | assumption | with_reducible refine EH.drew ?_ | with_reducible refine EH.alloc ?_ _ | (with_reducible refine EH.set ?_ _ _ _ ?_ ?_) | omega | (simp; omega))) (fun hHeld => ?_)
        clear hK K
        try simp only [Act.put, List.setIfInBounds_toArray, List.set_cons_zero, List.set_cons_succ]
        refine wpAnyH_ready (rs := [8]) (by kernel_rfl) (by simp) ?_
        refine (AllReadyH.cons rfl (fun K hK => ?_) AllReadyH.nil)
        go_simp
        skip
        refine hK.out _ _ (by repeat' (first | assumption | with_reducible refine EH.drew ?_ | with_reducible refine EH.alloc ?_ _ | (with_reducible refine EH.set ?_ _ _ _ ?_ ?_) | omega | (simp; omega))) (fun hHeld => ?_)
        clear hK K
        try simp only [Act.put, List.setIfInBounds_toArray, List.set_cons_zero, List.set_cons_succ]
        refine wpAnyH_done (by kernel_rfl) ?_ _
        go_wp2
        go_ret
        refine ⟨_, _, _, rfl, ⟨by first | omega | (simp; omega), by first | omega | (simp; omega), by omega⟩, ?_, hHeld.bel⟩
        rw [HC.out, HW.out]
        exact ⟨hHeld.tab, ⟨by simp [go_sem, *], by simp [go_sem, *]⟩, by simp [go_sem, *], hHeld.t_⟩
    ·
      go_simp
      skip
      refine hK.out _ _ (by repeat' (first | assumption | with_reducible refine EH.drew ?_ | with_reducible refine EH.alloc ?_ _ | (with_reducible refine EH.set ?_ _ _ _ ?_ ?_) | omega | (simp; omega))) (fun hHeld => ?_)
      clear hK K
      try simp only [Act.put, List.setIfInBounds_toArray, List.set_cons_zero, List.set_cons_succ]
      refine wpAnyH_ready (rs := [4, 5]) (by kernel_rfl) (by simp) ?_
      refine (AllReadyH.cons rfl (fun K hK => ?_) (AllReadyH.cons rfl (fun K hK => ?_) AllReadyH.nil))
      ·
        go_simp
        ((with_reducible refine (kw _ hHeld.tab).mono ?_); rintro e w6 ⟨rfl, rfl⟩)
        refine hK.out _ _ (hHeld) (fun hHeld => ?_)
        clear hK K
        try simp only [Act.put, List.setIfInBounds_toArray, List.set_cons_zero, List.set_cons_succ]
        refine wpAnyH_ready (rs := [5]) (by kernel_rfl) (by simp) ?_
        refine (AllReadyH.cons rfl (fun K hK => ?_) AllReadyH.nil)
        go_simp
        skip
        refine hK.out _ _ (by repeat' (first | assumption | with_reducible refine EH.drew ?_ | with_reducible refine EH.alloc ?_ _ | (with_reducible refine EH.set ?_ _ _ _ ?_ ?_) | omega | (simp; omega))) (fun hHeld => ?_)
        clear hK K
        try simp only [Act.put, List.setIfInBounds_toArray, List.set_cons_zero, List.set_cons_succ]
        refine wpAnyH_ready (rs := [7]) (by kernel_rfl) (by simp) ?_
        refine (AllReadyH.cons rfl (fun K hK => ?_) AllReadyH.nil)
        go_simp
        skip
        refine hK.out _ _ (by repeat' (first | assumption | with_reducible refine EH.drew ?_ | with_reducible refine EH.alloc ?_ _ | (with_reducible refine EH.set ?_ _ _ _ ?_ ?_) | omega | (simp; omega))) (fun hHeld => ?_)
        clear hK K
        try simp only [Act.put, List.setIfInBounds_toArray, List.set_cons_zero, List.set_cons_succ]
        refine wpAnyH_ready (rs := [8]) (by kernel_rfl) (by simp) ?_
        refine (AllReadyH.cons rfl (fun K hK => ?_) AllReadyH.nil)
        go_simp
        skip
        refine hK.out _ _ (by repeat' (first | assumption | with_reducible refine EH.drew ?_ | with_reducible refine EH.alloc ?_ _ | (with_reducible refine EH.set ?_ _ _ _ ?_ ?_) | omega | (simp; omega))) (fun hHeld => ?_)
        clear hK K
        try simp only [Act.put, List.setIfInBounds_toArray, List.set_cons_zero, List.set_cons_succ]
        refine wpAnyH_done (by kernel_rfl) ?_ _
        go_wp2
        go_ret
        refine ⟨_, _, _, rfl, ⟨by first | omega | (simp; omega), by first | omega | (simp; omega), by omega⟩, ?_, hHeld.bel⟩
        rw [HC.out, HW.out]
        exact ⟨hHeld.tab, ⟨by simp [go_sem, *], by simp [go_sem, *]⟩, by simp [go_sem, *], hHeld.t_⟩
      ·
        go_simp
        skip
        refine hK.out _ _ (by repeat' (first | assumption | with_reducible refine EH.drew ?_ | with_reducible refine EH.alloc ?_ _ | (with_reducible refine EH.set ?_ _ _ _ ?_ ?_) | omega | (simp; omega))) (fun hHeld => ?_)
        clear hK K
        try simp only [Act.put, List.setIfInBounds_toArray, List.set_cons_zero, List.set_cons_succ]
        refine wpAnyH_ready (rs := [4]) (by kernel_rfl) (by simp) ?_
        refine (AllReadyH.cons rfl (fun K hK => ?_) AllReadyH.nil)
        go_simp
        ((with_reducible refine (kw _ hHeld.tab).mono ?_); rintro e w6 ⟨rfl, rfl⟩)
        refine hK.out _ _ (hHeld) (fun hHeld => ?_)
        clear hK K
        try simp only [Act.put, List.setIfInBounds_toArray, List.set_cons_zero, List.set_cons_succ]
        refine wpAnyH_ready (rs := [7]) (by kernel_rfl) (by simp) ?_
        refine (AllReadyH.cons rfl (fun K hK => ?_) AllReadyH.nil)
        go_simp
        skip
        refine hK.out _ _ (by repeat' (first | assumption | with_reducible refine EH.drew ?_ | with_reducible refine EH.alloc ?_ _ | (with_reducible refine EH.set ?_ _ _ _ ?_ ?_) | omega | (simp; omega))) (fun hHeld => ?_)
        clear hK K
        try simp only [Act.put, List.setIfInBounds_toArray, List.set_cons_zero, List.set_cons_succ]
        refine wpAnyH_ready (rs := [8]) (by kernel_rfl) (by simp) ?_
        refine (AllReadyH.cons rfl (fun K hK => ?_) AllReadyH.nil)
        go_simp
        skip
        refine hK.out _ _ (by repeat' (first | assumption | with_reducible refine EH.drew ?_ | with_reducible refine EH.alloc ?_ _ | (with_reducible refine EH.set ?_ _ _ _ ?_ ?_) | omega | (simp; omega))) (fun hHeld => ?_)
        clear hK K
        try simp only [Act.put, List.setIfInBounds_toArray, List.set_cons_zero, List.set_cons_succ]
        refine wpAnyH_done (by kernel_rfl) ?_ _
        go_wp2
        go_ret
        refine ⟨_, _, _, rfl, ⟨by first | omega | (simp; omega), by first | omega | (simp; omega), by omega⟩, ?_, hHeld.bel⟩
        rw [HC.out, HW.out]
        exact ⟨hHeld.tab, ⟨by simp [go_sem, *], by simp [go_sem, *]⟩, by simp [go_sem, *], hHeld.t_⟩
  ·
    go_simp
    skip
    refine hK.out _ _ (by repeat' (first | assumption | with_reducible refine EH.drew ?_ | with_reducible refine EH.alloc ?_ _ | (with_reducible refine EH.set ?_ _ _ _ ?_ ?_) | omega | (simp; omega))) (fun hHeld => ?_)
    clear hK K
    try simp only [Act.put, List.setIfInBounds_toArray, List.set_cons_zero, List.set_cons_succ]
    refine wpAnyH_ready (rs := [2, 6]) (by kernel_rfl) (by simp) ?_
    refine (AllReadyH.cons rfl (fun K hK => ?_) (AllReadyH.cons rfl (fun K hK => ?_) AllReadyH.nil))
    ·
      go_simp
      ((with_reducible refine (kc _ hHeld.tab).mono ?_); rintro e w5 ⟨rfl, hb5⟩; (have hz5 := hb5.size); (have q20c := hb5.cell (p := ⟨w.heap.size + 1 + 1, 0, none⟩)); (try simp [go_sem] at q20c); (have q20f := hb5.frozen (p := ⟨w.heap.size + 1 + 1, 0, none⟩)); (try simp [go_sem] at q20f); (have q21c := hb5.cell (p := ⟨w.heap.size + 1 + 1, 1, none⟩)); (try simp [go_sem] at q21c); (have q21f := hb5.frozen (p := ⟨w.heap.size + 1 + 1, 1, none⟩)); (try simp [go_sem] at q21f); (have q30c := hb5.cell (p := ⟨w.heap.size + 1 + 1 + 1, 0, none⟩)); (try simp [go_sem] at q30c); (have q30f := hb5.frozen (p := ⟨w.heap.size + 1 + 1 + 1, 0, none⟩)); (try simp [go_sem] at q30f); (have q31c := hb5.cell (p := ⟨w.heap.size + 1 + 1 + 1, 1, none⟩)); (try simp [go_sem] at q31c); (have q31f := hb5.frozen (p := ⟨w.heap.size + 1 + 1 + 1, 1, none⟩)); (try simp [go_sem] at q31f); (try simp at hz5); (have hne0 := fun h : w.heap.size + 1 + 1 + 1 ≤ w5.heap.size => (show (¬ w.heap.size + 1 + 1 = w5.heap.size) ∧ (¬ w5.heap.size = w.heap.size + 1 + 1) from ⟨by omega, by omega⟩)); (try (have hne := hne0 hz5; obtain ⟨n1, n2⟩ := hne)); clear hne0; (try (have qa0 := fun (o : Obj) => ((Below.refl w5.heap.size w5).alloc (Nat.le_refl _) o).cell (p := ⟨w.heap.size + 1 + 1, 0, none⟩) hz5)); (try (have qa1 := fun (o : Obj) => ((Below.refl w5.heap.size w5).alloc (Nat.le_refl _) o).cell (p := ⟨w.heap.size + 1 + 1, 1, none⟩) hz5)); (try (have qb0 := fun (o : Obj) => ((Below.refl w5.heap.size w5).alloc (Nat.le_refl _) o).frozen (p := ⟨w.heap.size + 1 + 1, 0, none⟩) hz5)); (try (have qb1 := fun (o : Obj) => ((Below.refl w5.heap.size w5).alloc (Nat.le_refl _) o).frozen (p := ⟨w.heap.size + 1 + 1, 1, none⟩) hz5)); have hH5 := hHeld.below hb5)
      refine hK.out _ _ (hH5) (fun hHeld => ?_)
      clear hK K
      try simp only [Act.put, List.setIfInBounds_toArray, List.set_cons_zero, List.set_cons_succ]
      refine wpAnyH_ready (rs := [4, 6]) (by kernel_rfl) (by simp) ?_
      refine (AllReadyH.cons rfl (fun K hK => ?_) (AllReadyH.cons rfl (fun K hK => ?_) AllReadyH.nil))
      ·
        go_simp
        ((with_reducible refine (kw _ hHeld.tab).mono ?_); rintro e w6 ⟨rfl, rfl⟩)
        refine hK.out _ _ (hHeld) (fun hHeld => ?_)
        clear hK K
        try simp only [Act.put, List.setIfInBounds_toArray, List.set_cons_zero, List.set_cons_succ]
        refine wpAnyH_ready (rs := [6]) (by kernel_rfl) (by simp) ?_
        refine (AllReadyH.cons rfl (fun K hK => ?_) AllReadyH.nil)
        go_simp
        skip
        refine hK.out _ _ (by repeat' (first | assumption | with_reducible refine EH.drew ?_ | with_reducible refine EH.alloc ?_ _ | (with_reducible refine EH.set ?_ _ _ _ ?_ ?_) | omega | (simp; omega))) (fun hHeld => ?_)
        clear hK K
        try simp only [Act.put, List.setIfInBounds_toArray, List.set_cons_zero, List.set_cons_succ]
        refine wpAnyH_ready (rs := [7]) (by kernel_rfl) (by simp) ?_
        refine (AllReadyH.cons rfl (fun K hK => ?_) AllReadyH.nil)
        go_simp
        skip
        refine hK.out _ _ (by repeat' (first | assumption | with_reducible refine EH.drew ?_ | with_reducible refine EH.alloc ?_ _ | (with_reducible refine EH.set ?_ _ _ _ ?_ ?_) | omega | (simp; omega))) (fun hHeld => ?_)
        clear hK K
        try simp only [Act.put, List.setIfInBounds_toArray, List.set_cons_zero, List.set_cons_succ]
        refine wpAnyH_ready (rs := [8]) (by kernel_rfl) (by simp) ?_
        refine (AllReadyH.cons rfl (fun K hK => ?_) AllReadyH.nil)
        go_simp
        skip
        refine hK.out _ _ (by repeat' (first | assumption | with_reducible refine EH.drew ?_ | with_reducible refine EH.alloc ?_ _ | (with_reducible refine EH.set ?_ _ _ _ ?_ ?_) | omega | (simp; omega))) (fun hHeld => ?_)
        clear hK K
        try simp only [Act.put, List.setIfInBounds_toArray, List.set_cons_zero, List.set_cons_succ]
        refine wpAnyH_done (by kernel_rfl) ?_ _
        go_wp2
        go_ret
        refine ⟨_, _, _, rfl, ⟨by first | omega | (simp; omega), by first | omega | (simp; omega), by omega⟩, ?_, hHeld.bel⟩
        rw [HC.out, HW.out]
        exact ⟨hHeld.tab, ⟨by simp [go_sem, *], by simp [go_sem, *]⟩, by simp [go_sem, *], hHeld.t_⟩
      ·
        go_simp
        skip
        refine hK.out _ _ (by repeat' (first | assumption | with_reducible refine EH.drew ?_ | with_reducible refine EH.alloc ?_ _ | (with_reducible refine EH.set ?_ _ _ _ ?_ ?_) | omega | (simp; omega))) (fun hHeld => ?_)
        clear hK K
        try simp only [Act.put, List.setIfInBounds_toArray, List.set_cons_zero, List.set_cons_succ]
        refine wpAnyH_ready (rs := [4]) (by kernel_rfl) (by simp) ?_
        refine (AllReadyH.cons rfl (fun K hK => ?_) AllReadyH.nil)
        go_simp
        ((with_reducible refine (kw _ hHeld.tab).mono ?_); rintro e w6 ⟨rfl, rfl⟩)
        refine hK.out _ _ (hHeld) (fun hHeld => ?_)
        clear hK K
        try simp only [Act.put, List.setIfInBounds_toArray, List.set_cons_zero, List.set_cons_succ]
        refine wpAnyH_ready (rs := [7]) (by kernel_rfl) (by simp) ?_
        refine (AllReadyH.cons rfl (fun K hK => ?_) AllReadyH.nil)
        go_simp
        skip
        refine hK.out _ _ (by repeat' (first | assumption | with_reducible refine EH.drew ?_ | with_reducible refine EH.alloc ?_ _ | (with_reducible refine EH.set ?_ _ _ _ ?_ ?_) | omega | (simp; omega))) (fun hHeld => ?_)
        clear hK K
        try simp only [Act.put, List.setIfInBounds_toArray, List.set_cons_zero, List.set_cons_succ]
        refine wpAnyH_ready (rs := [8]) (by kernel_rfl) (by simp) ?_
        refine (AllReadyH.cons rfl (fun K hK => ?_) AllReadyH.nil)
        go_simp
        skip
        refine hK.out _ _ (by repeat' (first | assumption | with_reducible refine EH.drew ?_ | with_reducible refine EH.alloc ?_ _ | (with_reducible refine EH.set ?_ _ _ _ ?_ ?_) | omega | (simp; omega))) (fun hHeld => ?_)
        clear hK K
        try simp only [Act.put, List.setIfInBounds_toArray, List.set_cons_zero, List.set_cons_succ]
        refine wpAnyH_done (by kernel_rfl) ?_ _
        go_wp2
        go_ret
        refine ⟨_, _, _, rfl, ⟨by first | omega | (simp; omega), by first | omega | (simp; omega), by omega⟩, ?_, hHeld.bel⟩
        rw [HC.out, HW.out]
        exact ⟨hHeld.tab, ⟨by simp [go_sem, *], by simp [go_sem, *]⟩, by simp [go_sem, *], hHeld.t_⟩
    ·
      go_simp
      skip
      refine hK.out _ _ (by repeat' (first | assumption | with_reducible refine EH.drew ?_ | with_reducible refine EH.alloc ?_ _ | (with_reducible refine EH.set ?_ _ _ _ ?_ ?_) | omega | (simp; omega))) (fun hHeld => ?_)
      clear hK K
      try simp only [Act.put, List.setIfInBounds_toArray, List.set_cons_zero, List.set_cons_succ]
      refine wpAnyH_ready (rs := [2]) (by kernel_rfl) (by simp) ?_
      refine (AllReadyH.cons rfl (fun K hK => ?_) AllReadyH.nil)
      go_simp
      ((with_reducible refine (kc _ hHeld.tab).mono ?_); rintro e w5 ⟨rfl, hb5⟩; (have hz5 := hb5.size); (have q20c := hb5.cell (p := ⟨w.heap.size + 1 + 1, 0, none⟩)); (try simp [go_sem] at q20c); (have q20f := hb5.frozen (p := ⟨w.heap.size + 1 + 1, 0, none⟩)); (try simp [go_sem] at q20f); (have q21c := hb5.cell (p := ⟨w.heap.size + 1 + 1, 1, none⟩)); (try simp [go_sem] at q21c); (have q21f := hb5.frozen (p := ⟨w.heap.size + 1 + 1, 1, none⟩)); (try simp [go_sem] at q21f); (have q30c := hb5.cell (p := ⟨w.heap.size + 1 + 1 + 1, 0, none⟩)); (try simp [go_sem] at q30c); (have q30f := hb5.frozen (p := ⟨w.heap.size + 1 + 1 + 1, 0, none⟩)); (try simp [go_sem] at q30f); (have q31c := hb5.cell (p := ⟨w.heap.size + 1 + 1 + 1, 1, none⟩)); (try simp [go_sem] at q31c); (have q31f := hb5.frozen (p := ⟨w.heap.size + 1 + 1 + 1, 1, none⟩)); (try simp [go_sem] at q31f); (try simp at hz5); (have hne0 := fun h : w.heap.size + 1 + 1 + 1 ≤ w5.heap.size => (show (¬ w.heap.size + 1 + 1 = w5.heap.size) ∧ (¬ w5.heap.size = w.heap.size + 1 + 1) from ⟨by omega, by omega⟩)); (try (have hne := hne0 hz5; obtain ⟨n1, n2⟩ := hne)); clear hne0; (try (have qa0 := fun (o : Obj) => ((Below.refl w5.heap.size w5).alloc (Nat.le_refl _) o).cell (p := ⟨w.heap.size + 1 + 1, 0, none⟩) hz5)); (try (have qa1 := fun (o : Obj) => ((Below.refl w5.heap.size w5).alloc (Nat.le_refl _) o).cell (p := ⟨w.heap.size + 1 + 1, 1, none⟩) hz5)); (try (have qb0 := fun (o : Obj) => ((Below.refl w5.heap.size w5).alloc (Nat.le_refl _) o).frozen (p := ⟨w.heap.size + 1 + 1, 0, none⟩) hz5)); (try (have qb1 := fun (o : Obj) => ((Below.refl w5.heap.size w5).alloc (Nat.le_refl _) o).frozen (p := ⟨w.heap.size + 1 + 1, 1, none⟩) hz5)); have hH5 := hHeld.below hb5)
      refine hK.out _ _ (hH5) (fun hHeld => ?_)
      clear hK K
      try simp only [Act.put, List.setIfInBounds_toArray, List.set_cons_zero, List.set_cons_succ]
      refine wpAnyH_ready (rs := [4]) (by kernel_rfl) (by simp) ?_
      refine (AllReadyH.cons rfl (fun K hK => ?_) AllReadyH.nil)
      go_simp
      ((with_reducible refine (kw _ hHeld.tab).mono ?_); rintro e w6 ⟨rfl, rfl⟩)
      refine hK.out _ _ (hHeld) (fun hHeld => ?_)
      clear hK K
      try simp only [Act.put, List.setIfInBounds_toArray, List.set_cons_zero, List.set_cons_succ]
      refine wpAnyH_ready (rs := [7]) (by kernel_rfl) (by simp) ?_
      refine (AllReadyH.cons rfl (fun K hK => ?_) AllReadyH.nil)
      go_simp
      skip
      refine hK.out _ _ (by repeat' (first | assumption | with_reducible refine EH.drew ?_ | with_reducible refine EH.alloc ?_ _ | (with_reducible refine EH.set ?_ _ _ _ ?_ ?_) | omega | (simp; omega))) (fun hHeld => ?_)
      clear hK K
      try simp only [Act.put, List.setIfInBounds_toArray, List.set_cons_zero, List.set_cons_succ]
      refine wpAnyH_ready (rs := [8]) (by kernel_rfl) (by simp) ?_
      refine (AllReadyH.cons rfl (fun K hK => ?_) AllReadyH.nil)
      go_simp
      skip
      refine hK.out _ _ (by repeat' (first | assumption | with_reducible refine EH.drew ?_ | with_reducible refine EH.alloc ?_ _ | (with_reducible refine EH.set ?_ _ _ _ ?_ ?_) | omega | (simp; omega))) (fun hHeld => ?_)
      clear hK K
      try simp only [Act.put, List.setIfInBounds_toArray, List.set_cons_zero, List.set_cons_succ]
      refine wpAnyH_done (by kernel_rfl) ?_ _
      go_wp2
      go_ret
      refine ⟨_, _, _, rfl, ⟨by first | omega | (simp; omega), by first | omega | (simp; omega), by omega⟩, ?_, hHeld.bel⟩
      rw [HC.out, HW.out]
      exact ⟨hHeld.tab, ⟨by simp [go_sem, *], by simp [go_sem, *]⟩, by simp [go_sem, *], hHeld.t_⟩
  ·
    go_simp
    skip
    refine hK.out _ _ (by repeat' (first | assumption | with_reducible refine EH.drew ?_ | with_reducible refine EH.alloc ?_ _ | (with_reducible refine EH.set ?_ _ _ _ ?_ ?_) | omega | (simp; omega))) (fun hHeld => ?_)
    clear hK K
    try simp only [Act.put, List.setIfInBounds_toArray, List.set_cons_zero, List.set_cons_succ]
    refine wpAnyH_ready (rs := [2, 5]) (by kernel_rfl) (by simp) ?_
    refine (AllReadyH.cons rfl (fun K hK => ?_) (AllReadyH.cons rfl (fun K hK => ?_) AllReadyH.nil))
    ·
      go_simp
      ((with_reducible refine (kc _ hHeld.tab).mono ?_); rintro e w5 ⟨rfl, hb5⟩; (have hz5 := hb5.size); (have q20c := hb5.cell (p := ⟨w.heap.size + 1 + 1, 0, none⟩)); (try simp [go_sem] at q20c); (have q20f := hb5.frozen (p := ⟨w.heap.size + 1 + 1, 0, none⟩)); (try simp [go_sem] at q20f); (have q21c := hb5.cell (p := ⟨w.heap.size + 1 + 1, 1, none⟩)); (try simp [go_sem] at q21c); (have q21f := hb5.frozen (p := ⟨w.heap.size + 1 + 1, 1, none⟩)); (try simp [go_sem] at q21f); (have q30c := hb5.cell (p := ⟨w.heap.size + 1 + 1 + 1, 0, none⟩)); (try simp [go_sem] at q30c); (have q30f := hb5.frozen (p := ⟨w.heap.size + 1 + 1 + 1, 0, none⟩)); (try simp [go_sem] at q30f); (have q31c := hb5.cell (p := ⟨w.heap.size + 1 + 1 + 1, 1, none⟩)); (try simp [go_sem] at q31c); (have q31f := hb5.frozen (p := ⟨w.heap.size + 1 + 1 + 1, 1, none⟩)); (try simp [go_sem] at q31f); (try simp at hz5); (have hne0 := fun h : w.heap.size + 1 + 1 + 1 ≤ w5.heap.size => (show (¬ w.heap.size + 1 + 1 = w5.heap.size) ∧ (¬ w5.heap.size = w.heap.size + 1 + 1) from ⟨by omega, by omega⟩)); (try (have hne := hne0 hz5; obtain ⟨n1, n2⟩ := hne)); clear hne0; (try (have qa0 := fun (o : Obj) => ((Below.refl w5.heap.size w5).alloc (Nat.le_refl _) o).cell (p := ⟨w.heap.size + 1 + 1, 0, none⟩) hz5)); (try (have qa1 := fun (o : Obj) => ((Below.refl w5.heap.size w5).alloc (Nat.le_refl _) o).cell (p := ⟨w.heap.size + 1 + 1, 1, none⟩) hz5)); (try (have qb0 := fun (o : Obj) => ((Below.refl w5.heap.size w5).alloc (Nat.le_refl _) o).frozen (p := ⟨w.heap.size + 1 + 1, 0, none⟩) hz5)); (try (have qb1 := fun (o : Obj) => ((Below.refl w5.heap.size w5).alloc (Nat.le_refl _) o).frozen (p := ⟨w.heap.size + 1 + 1, 1, none⟩) hz5)); have hH5 := hHeld.below hb5)
      refine hK.out _ _ (hH5) (fun hHeld => ?_)
      clear hK K
      try simp only [Act.put, List.setIfInBounds_toArray, List.set_cons_zero, List.set_cons_succ]
      refine wpAnyH_ready (rs := [4, 5]) (by kernel_rfl) (by simp) ?_
      refine (AllReadyH.cons rfl (fun K hK => ?_) (AllReadyH.cons rfl (fun K hK => ?_) AllReadyH.nil))
      ·
        go_simp
        ((with_reducible refine (kw _ hHeld.tab).mono ?_); rintro e w6 ⟨rfl, rfl⟩)
        refine hK.out _ _ (hHeld) (fun hHeld => ?_)
        clear hK K
        try simp only [Act.put, List.setIfInBounds_toArray, List.set_cons_zero, List.set_cons_succ]
        refine wpAnyH_ready (rs := [5]) (by kernel_rfl) (by simp) ?_
        refine (AllReadyH.cons rfl (fun K hK => ?_) AllReadyH.nil)
        go_simp
        skip
        refine hK.out _ _ (by repeat' (first | assumption | with_reducible refine EH.drew ?_ | with_reducible refine EH.alloc ?_ _ | (with_reducible refine EH.set ?_ _ _ _ ?_ ?_) | omega | (simp; omega))) (fun hHeld => ?_)
        clear hK K
        try simp only [Act.put, List.setIfInBounds_toArray, List.set_cons_zero, List.set_cons_succ]
        refine wpAnyH_ready (rs := [7]) (by kernel_rfl) (by simp) ?_
        refine (AllReadyH.cons rfl (fun K hK => ?_) AllReadyH.nil)
        go_simp
        skip
        refine hK.out _ _ (by repeat' (first | assumption | with_reducible refine EH.drew ?_ | with_reducible refine EH.alloc ?_ _ | (with_reducible refine EH.set ?_ _ _ _ ?_ ?_) | omega | (simp; omega))) (fun hHeld => ?_)
        clear hK K
        try simp only [Act.put, List.setIfInBounds_toArray, List.set_cons_zero, List.set_cons_succ]
        refine wpAnyH_ready (rs := [8]) (by kernel_rfl) (by simp) ?_
        refine (AllReadyH.cons rfl (fun K hK => ?_) AllReadyH.nil)
        go_simp
        skip
        refine hK.out _ _ (by repeat' (first | assumption | with_reducible refine EH.drew ?_ | with_reducible refine EH.alloc ?_ _ | (with_reducible refine EH.set ?_ _ _ _ ?_ ?_) | omega | (simp; omega))) (fun hHeld => ?_)
        clear hK K
        try simp only [Act.put, List.setIfInBounds_toArray, List.set_cons_zero, List.set_cons_succ]
        refine wpAnyH_done (by kernel_rfl) ?_ _
        go_wp2
        go_ret
        refine ⟨_, _, _, rfl, ⟨by first | omega | (simp; omega), by first | omega | (simp; omega), by omega⟩, ?_, hHeld.bel⟩
        rw [HC.out, HW.out]
        exact ⟨hHeld.tab, ⟨by simp [go_sem, *], by simp [go_sem, *]⟩, by simp [go_sem, *], hHeld.t_⟩
      ·
        go_simp
        skip
        refine hK.out _ _ (by repeat' (first | assumption | with_reducible refine EH.drew ?_ | with_reducible refine EH.alloc ?_ _ | (with_reducible refine EH.set ?_ _ _ _ ?_ ?_) | omega | (simp; omega))) (fun hHeld => ?_)
        clear hK K
        try simp only [Act.put, List.setIfInBounds_toArray, List.set_cons_zero, List.set_cons_succ]
        refine wpAnyH_ready (rs := [4]) (by kernel_rfl) (by simp) ?_
        refine (AllReadyH.cons rfl (fun K hK => ?_) AllReadyH.nil)
        go_simp
        ((with_reducible refine (kw _ hHeld.tab).mono ?_); rintro e w6 ⟨rfl, rfl⟩)
        refine hK.out _ _ (hHeld) (fun hHeld => ?_)
        clear hK K
        try simp only [Act.put, List.setIfInBounds_toArray, List.set_cons_zero, List.set_cons_succ]
        refine wpAnyH_ready (rs := [7]) (by kernel_rfl) (by simp) ?_
        refine (AllReadyH.cons rfl (fun K hK => ?_) AllReadyH.nil)
        go_simp
        skip
        refine hK.out _ _ (by repeat' (first | assumption | with_reducible refine EH.drew ?_ | with_reducible refine EH.alloc ?_ _ | (with_reducible refine EH.set ?_ _ _ _ ?_ ?_) | omega | (simp; omega))) (fun hHeld => ?_)
        clear hK K
        try simp only [Act.put, List.setIfInBounds_toArray, List.set_cons_zero, List.set_cons_succ]
        refine wpAnyH_ready (rs := [8]) (by kernel_rfl) (by simp) ?_
        refine (AllReadyH.cons rfl (fun K hK => ?_) AllReadyH.nil)
        go_simp
        skip
        refine hK.out _ _ (by repeat' (first | assumption | with_reducible refine EH.drew ?_ | with_reducible refine EH.alloc ?_ _ | (with_reducible refine EH.set ?_ _ _ _ ?_ ?_) | omega | (simp; omega))) (fun hHeld => ?_)
        clear hK K
        try simp only [Act.put, List.setIfInBounds_toArray, List.set_cons_zero, List.set_cons_succ]
        refine wpAnyH_done (by kernel_rfl) ?_ _
        go_wp2
        go_ret
        refine ⟨_, _, _, rfl, ⟨by first | omega | (simp; omega), by first | omega | (simp; omega), by omega⟩, ?_, hHeld.bel⟩
        rw [HC.out, HW.out]
        exact ⟨hHeld.tab, ⟨by simp [go_sem, *], by simp [go_sem, *]⟩, by simp [go_sem, *], hHeld.t_⟩
    ·
      go_simp
      skip
      refine hK.out _ _ (by repeat' (first | assumption | with_reducible refine EH.drew ?_ | with_reducible refine EH.alloc ?_ _ | (with_reducible refine EH.set ?_ _ _ _ ?_ ?_) | omega | (simp; omega))) (fun hHeld => ?_)
      clear hK K
      try simp only [Act.put, List.setIfInBounds_toArray, List.set_cons_zero, List.set_cons_succ]
      refine wpAnyH_ready (rs := [2]) (by kernel_rfl) (by simp) ?_
      refine (AllReadyH.cons rfl (fun K hK => ?_) AllReadyH.nil)
      go_simp
      ((with_reducible refine (kc _ hHeld.tab).mono ?_); rintro e w5 ⟨rfl, hb5⟩; (have hz5 := hb5.size); (have q20c := hb5.cell (p := ⟨w.heap.size + 1 + 1, 0, none⟩)); (try simp [go_sem] at q20c); (have q20f := hb5.frozen (p := ⟨w.heap.size + 1 + 1, 0, none⟩)); (try simp [go_sem] at q20f); (have q21c := hb5.cell (p := ⟨w.heap.size + 1 + 1, 1, none⟩)); (try simp [go_sem] at q21c); (have q21f := hb5.frozen (p := ⟨w.heap.size + 1 + 1, 1, none⟩)); (try simp [go_sem] at q21f); (have q30c := hb5.cell (p := ⟨w.heap.size + 1 + 1 + 1, 0, none⟩)); (try simp [go_sem] at q30c); (have q30f := hb5.frozen (p := ⟨w.heap.size + 1 + 1 + 1, 0, none⟩)); (try simp [go_sem] at q30f); (have q31c := hb5.cell (p := ⟨w.heap.size + 1 + 1 + 1, 1, none⟩)); (try simp [go_sem] at q31c); (have q31f := hb5.frozen (p := ⟨w.heap.size + 1 + 1 + 1, 1, none⟩)); (try simp [go_sem] at q31f); (try simp at hz5); (have hne0 := fun h : w.heap.size + 1 + 1 + 1 ≤ w5.heap.size => (show (¬ w.heap.size + 1 + 1 = w5.heap.size) ∧ (¬ w5.heap.size = w.heap.size + 1 + 1) from ⟨by omega, by omega⟩)); (try (have hne := hne0 hz5; obtain ⟨n1, n2⟩ := hne)); clear hne0; (try (have qa0 := fun (o : Obj) => ((Below.refl w5.heap.size w5).alloc (Nat.le_refl _) o).cell (p := ⟨w.heap.size + 1 + 1, 0, none⟩) hz5)); (try (have qa1 := fun (o : Obj) => ((Below.refl w5.heap.size w5).alloc (Nat.le_refl _) o).cell (p := ⟨w.heap.size + 1 + 1, 1, none⟩) hz5)); (try (have qb0 := fun (o : Obj) => ((Below.refl w5.heap.size w5).alloc (Nat.le_refl _) o).frozen (p := ⟨w.heap.size + 1 + 1, 0, none⟩) hz5)); (try (have qb1 := fun (o : Obj) => ((Below.refl w5.heap.size w5).alloc (Nat.le_refl _) o).frozen (p := ⟨w.heap.size + 1 + 1, 1, none⟩) hz5)); have hH5 := hHeld.below hb5)
      refine hK.out _ _ (hH5) (fun hHeld => ?_)
      clear hK K
      try simp only [Act.put, List.setIfInBounds_toArray, List.set_cons_zero, List.set_cons_succ]
      refine wpAnyH_ready (rs := [4]) (by kernel_rfl) (by simp) ?_
      refine (AllReadyH.cons rfl (fun K hK => ?_) AllReadyH.nil)
      go_simp
      ((with_reducible refine (kw _ hHeld.tab).mono ?_); rintro e w6 ⟨rfl, rfl⟩)
      refine hK.out _ _ (hHeld) (fun hHeld => ?_)
      clear hK K
      try simp only [Act.put, List.setIfInBounds_toArray, List.set_cons_zero, List.set_cons_succ]
      refine wpAnyH_ready (rs := [7]) (by kernel_rfl) (by simp) ?_
      refine (AllReadyH.cons rfl (fun K hK => ?_) AllReadyH.nil)
      go_simp
      skip
      refine hK.out _ _ (by repeat' (first | assumption | with_reducible refine EH.drew ?_ | with_reducible refine EH.alloc ?_ _ | (with_reducible refine EH.set ?_ _ _ _ ?_ ?_) | omega | (simp; omega))) (fun hHeld => ?_)
      clear hK K
      try simp only [Act.put, List.setIfInBounds_toArray, List.set_cons_zero, List.set_cons_succ]
      refine wpAnyH_ready (rs := [8]) (by kernel_rfl) (by simp) ?_
      refine (AllReadyH.cons rfl (fun K hK => ?_) AllReadyH.nil)
      go_simp
      skip
      refine hK.out _ _ (by repeat' (first | assumption | with_reducible refine EH.drew ?_ | with_reducible refine EH.alloc ?_ _ | (with_reducible refine EH.set ?_ _ _ _ ?_ ?_) | omega | (simp; omega))) (fun hHeld => ?_)
      clear hK K
      try simp only [Act.put, List.setIfInBounds_toArray, List.set_cons_zero, List.set_cons_succ]
      refine wpAnyH_done (by kernel_rfl) ?_ _
      go_wp2
      go_ret
      refine ⟨_, _, _, rfl, ⟨by first | omega | (simp; omega), by first | omega | (simp; omega), by omega⟩, ?_, hHeld.bel⟩
      rw [HC.out, HW.out]
      exact ⟨hHeld.tab, ⟨by simp [go_sem, *], by simp [go_sem, *]⟩, by simp [go_sem, *], hHeld.t_⟩
end Go.Proofs.YtdkenokjdiamhaaDoor
