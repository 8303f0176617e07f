/- Answer and Merged. -/
import Derived.Test.YtcjcbbpolhpphaaQuRd
set_option maxRecDepth 20000
set_option linter.unusedSimpArgs false
set_option linter.unusedVariables false
namespace Go.Proofs.Ytcjcbbpolhpphaa.Qu
open Go.RowKit Go.Maps Go.Proofs.Ytcjcbbpolhpphaa.Vi

/-- Heard, and the map is there. -/
structure Mid (w W : World) (B b m : Nat) (R : RS) (n : Int) : Prop where
  at_ : WAt W b 67 (hearS R.S n)
  cell : W.cell? ⟨b, 33, none⟩ = some (.map (some m))
  mp : MpAt W B m R
  frm : ButP (rmods w b) w W
  mod : m < w.heap.size → rmods w b m
theorem RdG.type {w : World} {B0 B b : Nat} {R : RS} (h : RdG w B0 B b R) : ∃ cur : Array Value, w.heap[b]? = some (.cells cur 67 (0, 0)) := h.at_.big
theorem ne_point {w : World} {b g : Nat} {cur cur' : Array Value} (h : w.heap[b]? = some (.cells cur 67 (0, 0))) (k : w.heap[g]? = some (.cells cur' 55 (0, 0))) : g ≠ b := by
  rintro rfl
  rw [h] at k
  injection k with k
  injection k with _ k
  exact absurd k (by decide)
theorem heard_mp {w : World} {B0 B b m : Nat} {R : RS} {n : Int} (h : RdG w B0 B b R) (hm : MpAt w B m R) (hne : m ≠ b) (S : QS) : MpAt (hearW w b S n) B m R := by
  have hb := hearW_but w b S n
  obtain ⟨cur, hc⟩ := h.type
  exact hm.other (fun g cur' hg => hb.block g (Array.getElem?_eq_some_iff.1 hg).1 (ne_point hc hg)) (hb.block m hm.lt hne)
theorem mp_ne {w : World} {B0 B b m : Nat} {R : RS} (h : RdG w B0 B b R) (hm : MpAt w B m R) : m ≠ b := by
  obtain ⟨cur, hc⟩ := h.type
  obtain ⟨es, cl, e⟩ := hm.heap
  rintro rfl
  rw [hc] at e
  injection e with e
  cases e
theorem RdG.mid {w : World} {B0 B b m : Nat} {R : RS} (h : RdG w B0 B b R) (hc : w.cell? ⟨b, 33, none⟩ = some (.map (some m))) (hm : MpAt w B m R) (n : Int) : Mid w (hearW w b R.S n) B b m R n :=
  ⟨h.at_.hear n, (hearW_off (Or.inr (Nat.le_refl _))).trans hc, heard_mp h hm (mp_ne h hm) R.S, (ButP.refl _ w).but (hearW_but w b R.S n) (Or.inl (Or.inl rfl)), fun _ => Or.inr hc⟩
theorem RdG.mid0 {w : World} {B0 B b : Nat} {R : RS} (h : RdG w B0 B b R) (ha : ∀ i : Nat, i < 16 → R.an (i : Int) = []) (hB : B ≤ w.heap.size) (n : Int) :
    Mid w (((hearW w b R.S n).alloc (.map #[] 0)).setCell ⟨b, 33, none⟩ (.map (some w.heap.size))) B b w.heap.size R n := by
  have hsz := hearW_size w b R.S n
  have hbw := h.at_.lt
  have hbut := hearW_but w b R.S n
  have hW := h.at_.hear n
  obtain ⟨cur, hcur⟩ := hW.big
  have hal := (Below.refl (hearW w b R.S n).heap.size (hearW w b R.S n)).alloc (Nat.le_refl _) (.map #[] 0)
  have hW2 := hW.later hal
  obtain ⟨cur2, hcur2⟩ := hW2.big
  have hlast : ∃ x, ((hearW w b R.S n).alloc (.map #[] 0)).cell? ⟨b, 33, none⟩ = some x := by
    rcases h.mp with ⟨c, -⟩ | ⟨m, c, -⟩
    · exact ⟨_, (hal.cell (p := ⟨b, 33, none⟩) (by show b < _; omega)).trans ((hearW_off (Or.inr (Nat.le_refl _))).trans c)⟩
    · exact ⟨_, (hal.cell (p := ⟨b, 33, none⟩) (by show b < _; omega)).trans ((hearW_off (Or.inr (Nat.le_refl _))).trans c)⟩
  obtain ⟨x, hx⟩ := hlast
  refine ⟨⟨⟨_, set_heap hcur2 _⟩, (cell_off (by omega)).trans hW2.need, fun i hi => (cell_off (by omega)).trans (hW2.nd i hi), fun i hi => (cell_off (by omega)).trans (hW2.hd i hi), hW2.ok⟩, World.cell?_setCell_same _ _ _ hx, ?_, ?_, fun hlt => absurd hlt (Nat.lt_irrefl _)⟩
  · have hmade := World.ownsMap_made (hearW w b R.S n) Try.prog 3 slR
    rw [hsz] at hmade
    have hset := hmade.setCell (a := ⟨b, 33, none⟩) (by show w.heap.size ≠ b; omega) (.map (some w.heap.size))
    refine ⟨hB, .map [], hset.mono (Nat.zero_le _), fun i hi => ⟨none, 0, ?_, ?_⟩⟩
    · rw [ha i hi]; rfl
    · rw [ha i hi]; exact PRow.nil _ _
  · exact (((ButP.refl _ w).but hbut (Or.inl (Or.inl rfl))).alloc _).setCell b 33 _ (Or.inl (Or.inl rfl))
/-- Its answer is there, too. -/
theorem Mid.done {w W W4 : World} {B0 B b m k : Nat} {R : RS} {l : List Pt} {v : Value} (h : Mid w W B b m R (k : Int)) (hk : k < 16) (h0 : RdG w B0 B b R) (hB : B ≤ w.heap.size) (hy : hearB R.S (k : Int) = true) (hb4 : Below W.heap.size W W4) (hv : PRow W4 W.heap.size v (srtR l)) (hcnt : R.cnt ≤ 1000) (hl : l.length ≤ 1000) (hs : (srtR l).length ≤ 1000) (hn : ∀ p ∈ srtR l, p.s.size ≤ 1000) :
    ∃ W5, (Instr.mapUpdate TMP (.map (some m)) (.int .i64 (k : Int)) v).run Try.prog W4 = .ok () W5 ∧ RdG W5 B0 B b (ansS R (k : Int) l) ∧ ButP (rmods w b) w W5 ∧ W5.cell? ⟨b, 33, none⟩ = some (.map (some m)) ∧ ∀ k, rmods W5 b k → rmods w b k ∨ w.heap.size ≤ k := by
  obtain ⟨hlo, D, hD, hat⟩ := h.mp
  have hbW := h.at_.lt
  have hmW := h.mp.lt
  have hD4 : W4.ownsMap Try.prog 3 slR m R.cnt D := by
    obtain ⟨es, cl, h1, h2⟩ := hD
    exact ⟨es, cl, (hb4.block m hmW).trans h1, h2⟩
  obtain ⟨W5, hrun, hD5, hg⟩ := hD4.update kint Try.underlying65 (by unfold maxLen; omega) (key_i k hk) (val := v) (d := .held v) (ps := []) rfl
  have hmap4 : ∃ es cl, W4.heap[m]? = some (.map es cl) := by obtain ⟨es, cl, h1, -⟩ := hD4; exact ⟨es, cl, h1⟩
  obtain ⟨es4, cl4, hm4⟩ := hmap4
  have hblk : ∀ g, g < W4.heap.size → g ≠ m → W5.heap[g]? = W4.heap[g]? := fun g hlt hne => hg.block g hlt (fun e => hne (Option.some.inj e))
  have hpt : ∀ (g : Nat) (cur : Array Value), W4.heap[g]? = some (.cells cur 55 (0, 0)) → W5.heap[g]? = W4.heap[g]? := fun g cur hgc => hblk g (Array.getElem?_eq_some_iff.1 hgc).1 (fun e => by
    subst e
    rw [hm4] at hgc
    injection hgc with hgc
    cases hgc)
  obtain ⟨cur, hcur⟩ := h.at_.big
  have hbm : b ≠ m := by
    rintro rfl
    obtain ⟨es, cl, e⟩ := h.mp.heap
    rw [hcur] at e
    injection e with e
    cases e
  have hbs := hb4.size
  have hb5 : W5.heap[b]? = W.heap[b]? := (hblk b (by omega) hbm).trans (hb4.block b hbW)
  have hc5 : ∀ o, W5.cell? ⟨b, o, none⟩ = W.cell? ⟨b, o, none⟩ := fun o => World.cell?_of_block (w := W) hb5
  have hsz := h.frm.size
  have hans : ansS R (k : Int) l = ⟨hearS R.S (k : Int), fun i => if i = (k : Int) then srtR l else R.an i, R.cnt + 1⟩ := if_pos hy
  obtain ⟨a', c', hve⟩ := PRow.slice hv
  refine ⟨W5, hrun, ?_, ?_, (hc5 _).trans h.cell, fun g hg' => ?_⟩
  · rw [hans]
    refine ⟨h.at_.of hb5, h0.lo, Or.inr ⟨m, (hc5 _).trans h.cell, hlo, D.put (.int .i64 (k : Int)) (.held v), hD5, fun i hi => ?_⟩, fun i => ?_, fun i p hp => ?_, fun i => ?_⟩
    · dsimp only
      by_cases hik : i = k
      · subst hik
        rw [if_pos rfl]
        refine ⟨a', c', ?_, ?_⟩
        · rw [atKey_put_same hD4.isMap (by simp [Go.WideAt.IsKeyLit]), hve]
        · rw [← hve]
          exact prow_other (hv.base (by omega)) hpt
      · rw [if_neg (by omega)]
        obtain ⟨a, c, e1, e2⟩ := hat i hi
        refine ⟨a, c, ?_, prow_other (e2.later hb4) hpt⟩
        rw [atKey_put_other (fun e => hik (by injection e with _ e; omega))]
        exact e1
    · show (if i = (k : Int) then srtR l else R.an i).length ≤ 1000
      split
      · exact hs
      · exact h0.len i
    · have hp' : p ∈ (if i = (k : Int) then srtR l else R.an i) := hp
      split at hp'
      · exact hn p hp'
      · exact h0.nam i p hp'
    · show srtB (if i = (k : Int) then srtR l else R.an i) = true
      split
      · exact srtR_srt l
      · exact h0.srt i
  · have hgP : ButP (fun g => g = m) W4 W5 := ⟨hg.os, hg.tape, hg.output, hg.size, fun g hlt hne => hblk g hlt hne⟩
    exact (h.frm.ofB hb4 hsz).next hgP fun i hi e => by subst e; exact h.mod hi
  · rcases hg' with e | e
    · exact Or.inl (Or.inl e)
    · have e2 := (hc5 33).trans h.cell
      rw [e2] at e
      injection e with e
      injection e with e
      injection e with e
      subst e
      by_cases hlt : m < w.heap.size
      · exact Or.inl (h.mod hlt)
      · exact Or.inr (by omega)
theorem cell_keep {w : World} {q : Addr} {b o : Nat} {u x v : Value} (h : w.cell? q = some u) (hx : w.cell? ⟨b, o, none⟩ = some x) (hne : u ≠ x) : (w.setCell ⟨b, o, none⟩ v).cell? q = some u := by
  refine (World.cell?_setCell_other _ _ _ _ fun e => hne ?_).trans h
  subst e
  rw [h] at hx
  exact Option.some.inj hx
theorem lst_set {w : World} {N b o c : Nat} {a : Option Addr} {l : List Pt} {x : Value} (h : Lst w N a c l) (hx : w.cell? ⟨b, o, none⟩ = some x) (hs : (∃ z, x = .bool z) ∨ ∃ z, x = .map z) (v : Value) : Lst (w.setCell ⟨b, o, none⟩ v) N a c l := by
  have hS : ∀ s, Value.string s ≠ x := fun s e => by rcases hs with ⟨z, rfl⟩ | ⟨z, rfl⟩ <;> cases e
  have hI : ∀ s, Value.int .i64 s ≠ x := fun s e => by rcases hs with ⟨z, rfl⟩ | ⟨z, rfl⟩ <;> cases e
  refine ⟨⟨?_⟩, h.cap, h.no⟩
  rcases h.pts.at_ with h | ⟨g, off, e, hg, hc⟩
  · exact Or.inl h
  · exact Or.inr ⟨g, off, e, hg, fun j hj => by
      obtain ⟨c0, c1, c2, c3, c4, c5⟩ := hc j hj
      exact ⟨cell_keep c0 hx (hS _), cell_keep c1 hx (hI _), cell_keep c2 hx (hI _), cell_keep c3 hx (hI _), cell_keep c4 hx (hI _), cell_keep c5 hx (hI _)⟩⟩
theorem lst_hear {w : World} {N b c : Nat} {T : TypeId} {S : QS} {a : Option Addr} {l : List Pt} (h : Lst w N a c l) (hW : WAt w b T S) (n : Int) : Lst (hearW w b S n) N a c l := by
  unfold hearW
  by_cases hy : hearB S n = true
  · rw [if_pos hy]
    unfold hearB at hy
    obtain ⟨k, hk, rfl⟩ := has_node (Bool.and_eq_true_iff.1 hy).1
    exact lst_set h (hW.hd k hk) (Or.inl ⟨_, rfl⟩) _
  · rw [if_neg hy]; exact h
theorem map_eq (W : World) : (binOp BinOp.eql TMP (.map none) (.map none)).run Try.prog W = .ok (.bool true) W := by kernel_rfl
theorem map_ne (m : Nat) (W : World) : (binOp BinOp.eql TMP (.map (some m)) (.map none)).run Try.prog W = .ok (.bool false) W := by kernel_rfl
def AnsDone (w : World) (B0 B b : Nat) (R : RS) (n : Int) (l : List Pt) (e : Ending) (w' : World) : Prop := e = .returned (.bool (hearB R.S n)) ∧ RdG w' B0 B b (ansS R n l) ∧ ButP (rmods w b) w w' ∧ ∀ k, rmods w' b k → rmods w b k ∨ w.heap.size ≤ k
set_option maxHeartbeats 4000000 in
theorem answer_is {w : World} {B0 B b : Nat} {R : RS} (n : Int) (a0 : Option Addr) (c0 : Nat) (l : List Pt) (h : RdG w B0 B b R) (hB : B ≤ w.heap.size) (hL : Lst w w.heap.size a0 c0 l) (hl : l.length ≤ 100) (hnm : ∀ p ∈ l, p.s.size ≤ 1000) (hcnt : R.cnt ≤ 1000) :
    Calls Try.prog 21 #[.pointer (some ⟨b, 0, none⟩), .int .i64 n, .slice a0 l.length c0] w (AnsDone w B0 B b R n l) := by
  have kh := hear_is n h.at_
  have ks := fun w h => sort_is a0 c0 l w h (by omega) (fun p hp => Nat.le_trans (hnm p hp) (by decide))
  have H := Lib.hid h
  have HNM := Lib.hid hnm
  have hbw := h.at_.lt
  obtain ⟨z, hz⟩ : ∃ z, hearB R.S n = z := ⟨_, rfl⟩
  obtain ⟨W, hW⟩ : ∃ W, hearW w b R.S n = W := ⟨_, rfl⟩
  rw [hz, hW] at kh
  cases z with
  | false =>
    have HY := Lib.hid hz
    have HW := Lib.hid (show W = w by rw [← hW]; unfold hearW; rw [hz]; rfl)
    obtain ⟨q, hq⟩ : ∃ q, l.length = q := ⟨_, rfl⟩
    rw [hq]
    clear ks h hL hnm hz hW hq hl hcnt
    go_enter Try.func21, Try.ntmps21
    go_wp2_with (go_at_call 37; (with_reducible refine kh.mono ?_); rintro e w1 ⟨rfl, rfl⟩)
    go_ret
    exact ⟨by rw [HY.out]; rfl, by rw [HW.out]; unfold ansS; rw [HY.out]; exact H.out, by rw [HW.out]; exact ButP.refl _ _, by rw [HW.out]; exact fun k h => Or.inl h⟩
  | true =>
    have hy := hz
    have hz2 := hz
    unfold hearB at hz2
    obtain ⟨k, hk, rfl⟩ := has_node (Bool.and_eq_true_iff.1 hz2).1
    have HY := Lib.hid hz
    have hLW := lst_hear hL h.at_ (k : Int)
    rw [hW] at hLW
    have hWs : W.heap.size = w.heap.size := by rw [← hW]; exact hearW_size _ _ _ _
    rw [← hWs] at hLW
    rcases h.mp with ⟨c, ha⟩ | ⟨m, c, hm⟩
    · have hM := h.mid0 ha hB (k : Int)
      have c1 : W.cell? ⟨b, 33, none⟩ = some (.map none) := by rw [← hW]; exact (hearW_off (Or.inr (Nat.le_refl _))).trans c
      rw [← hWs, hW] at hM
      have hWA := h.at_.hear (k : Int)
      rw [hW] at hWA
      have f1 := hWA.frozen 33
      have hal := (Below.refl W.heap.size W).alloc (Nat.le_refl _) (.map #[] 0)
      have hL2 := lst_set (hLW.later hal) ((hal.cell (p := ⟨b, 33, none⟩) (by show b < _; omega)).trans c1) (Or.inr ⟨_, rfl⟩) (.map (some W.heap.size))
      obtain ⟨m, hmm⟩ : ∃ m, W.heap.size = m := ⟨_, rfl⟩
      rw [hmm] at hM hL2
      obtain ⟨W2, hW2⟩ : ∃ W2, (W.alloc (.map #[] 0)).setCell ⟨b, 33, none⟩ (.map (some m)) = W2 := ⟨_, rfl⟩
      have hbm : ¬ b = W.heap.size := by omega
      have hbm2 : ¬ W.heap.size = b := by omega
      rw [hW2] at hM hL2
      have hs2 : W2.heap.size = W.heap.size + 1 := by rw [← hW2]; simp
      have hL3 := hL2.mono (B' := W2.heap.size) (by simp [hs2])
      have HM := Lib.hid hM
      have HL := Lib.hid (hL3.later (Below.refl _ _).drew)
      have HDR := Lib.hid ((Below.refl W2.heap.size W2).drew)
      have hcD : W2.drew.cell? ⟨b, 33, none⟩ = some (.map (some m)) := hM.cell
      have hbl : b < W2.drew.heap.size := hM.at_.lt
      have hmk := @run_makeMap Try.prog
      have hmn := map_eq
      have hca := (hal.cell (p := ⟨b, 33, none⟩) (show b < W.heap.size by omega)).trans c1
      have hfa := (hWA.later hal).frozen 33
      clear h hL hz hz2 hW c hM hWA hL2 hL3 hLW hWs ha hs2 hal
      rw [show l.length = l.length from rfl]
      go_enter Try.func21, Try.ntmps21
      go_wp2_with (go_at_call 37; (with_reducible refine kh.mono ?_); rintro e w1 ⟨rfl, rfl⟩)
      refine wp_region_held_drew (S := (fun X => X.cell? ⟨b, 33, none⟩ = some (.map (some m)))) (by kernel_rfl) hcD (fun hHeld => ?_)
      refine wpAnyH_take (i := 0) (oi := ?a1o) (v := ?a1v) ?a1h (by kernel_rfl) (by kernel_rfl) (by kernel_rfl) ?a1q ?a1y hHeld ?a1r
      case a1h => (simp only [List.getElem?_toArray, List.getElem?_cons_zero]; rfl)
      case a1q => exact fun _ _ _ h => h
      case a1y => (refine Or.inl ⟨by first | kernel_rfl | rfl, ?_⟩; intro w hSw; (try dsimp only at hSw); have y1 := hSw; go_simp <;> (try with_reducible rfl))
      try simp only [Act.put, List.setIfInBounds_toArray, List.set_cons_zero, List.set_cons_succ]
      refine wpAnyH_take (i := 1) (oi := ?a2o) (v := ?a2v) ?a2h (by kernel_rfl) (by kernel_rfl) (by kernel_rfl) ?a2q ?a2y hHeld ?a2r
      case a2h => (simp only [List.getElem?_toArray, List.getElem?_cons_succ, List.getElem?_cons_zero]; rfl)
      case a2q => exact fun _ _ _ h => h
      case a2y => (refine Or.inl ⟨by first | kernel_rfl | rfl, ?_⟩; intro w hSw; (try dsimp only at hSw); have y1 := hSw; go_simp <;> (try with_reducible rfl))
      try simp only [Act.put, List.setIfInBounds_toArray, List.set_cons_zero, List.set_cons_succ]
      refine wpAnyH_take (i := 2) (oi := ?a3o) (v := ?a3v) ?a3h (by kernel_rfl) (by kernel_rfl) (by kernel_rfl) ?a3q ?a3y hHeld ?a3r
      case a3h => (simp only [List.getElem?_toArray, List.getElem?_cons_succ, List.getElem?_cons_zero]; rfl)
      case a3q => exact fun _ _ _ h => h
      case a3y => (refine Or.inl ⟨by first | kernel_rfl | rfl, ?_⟩; intro w hSw; (try dsimp only at hSw); have y1 := hSw; go_simp <;> (try with_reducible rfl))
      try simp only [Act.put, List.setIfInBounds_toArray, List.set_cons_zero, List.set_cons_succ]
      refine wpAnyH_take (i := 3) (oi := ?a4o) (v := ?a4v) ?a4h (by kernel_rfl) (by kernel_rfl) (by kernel_rfl) ?a4q ?a4y hHeld ?a4r
      case a4h => (simp only [List.getElem?_toArray, List.getElem?_cons_succ, List.getElem?_cons_zero]; rfl)
      case a4q => exact fun _ _ _ h => h
      case a4y => (refine Or.inl ⟨by first | kernel_rfl | rfl, ?_⟩; intro w hSw; (try dsimp only at hSw); have y1 := hSw; go_simp <;> (try with_reducible rfl))
      try simp only [Act.put, List.setIfInBounds_toArray, List.set_cons_zero, List.set_cons_succ]
      refine wpAnyH_take (i := 4) (oi := ?a5o) (v := ?a5v) ?a5h (by kernel_rfl) (by kernel_rfl) (by kernel_rfl) ?a5q ?a5y hHeld ?a5r
      case a5h => (simp only [List.getElem?_toArray, List.getElem?_cons_succ, List.getElem?_cons_zero]; rfl)
      case a5q => exact fun _ _ _ h => h
      case a5y => (refine Or.inl ⟨by first | kernel_rfl | rfl, ?_⟩; intro w hSw; (try dsimp only at hSw); have y1 := hSw; go_simp <;> (try with_reducible rfl))
      try simp only [Act.put, List.setIfInBounds_toArray, List.set_cons_zero, List.set_cons_succ]
      refine wpAnyH_take (i := 5) (oi := ?a6o) (v := ?a6v) ?a6h (by kernel_rfl) (by kernel_rfl) (by kernel_rfl) ?a6q ?a6y hHeld ?a6r
      case a6h => (simp only [List.getElem?_toArray, List.getElem?_cons_succ, List.getElem?_cons_zero]; rfl)
      case a6q => exact fun _ _ _ h => h
      case a6y => (refine Or.inl ⟨by first | kernel_rfl | rfl, ?_⟩; intro w hSw; (try dsimp only at hSw); have y1 := hSw; go_simp <;> (try with_reducible rfl))
      try simp only [Act.put, List.setIfInBounds_toArray, List.set_cons_zero, List.set_cons_succ]
      refine wpAnyH_ready (rs := [6]) (by kernel_rfl) (by simp) ?_
      refine (AllReadyH.cons rfl (fun K hK => ?_) AllReadyH.nil)
      go_simp
      (go_at_call 42; (with_reducible refine (ks _ HL.out).mono ?_); rintro e w4 ⟨v, rfl, hR, hb4⟩; (obtain ⟨w5, hrun, hrd, hfr, hc5, hmd⟩ := HM.out.done hk H.out hB hy (HDR.out.trans hb4) hR hcnt (by omega) (Nat.le_trans (srtR_len l) (by omega)) (fun p hp => hnm p (srtR_mem l hp))); (have HRD := Lib.hid hrd); (have HFR := Lib.hid hfr); (have HMD := Lib.hid hmd); (have hc4 := (hb4.cell (p := ⟨b, 33, none⟩) hbl).trans hcD); clear hrd hfr hR hb4 hmd)
      refine hK.out _ _ (hc4) (fun hHeld => ?_)
      clear hK K
      try simp only [Act.put, List.setIfInBounds_toArray, List.set_cons_zero, List.set_cons_succ]
      refine wpAnyH_ready (rs := [7]) (by kernel_rfl) (by simp) ?_
      refine (AllReadyH.cons rfl (fun K hK => ?_) AllReadyH.nil)
      go_simp
      skip
      refine hK.out _ _ (hc5) (fun hHeld => ?_)
      clear hK K
      try simp only [Act.put]
      refine wpAnyH_done (by kernel_rfl) ?_ _
      go_wp2
      go_ret
      exact ⟨by rw [HY.out]; rfl, HRD.out, HFR.out, HMD.out⟩
    · have hM := h.mid c hm (k : Int)
      rw [hW] at hM
      have hmn := map_ne m
      have c1 := hM.cell
      have hL3 := hLW
      have HM := Lib.hid hM
      have HL := Lib.hid (hL3.later (Below.refl _ _).drew)
      have HDR := Lib.hid ((Below.refl W.heap.size W).drew)
      have hcD : W.drew.cell? ⟨b, 33, none⟩ = some (.map (some m)) := hM.cell
      have hbl : b < W.drew.heap.size := hM.at_.lt
      clear h hL hz hz2 hW c hM hm hL3 hLW hWs
      go_enter Try.func21, Try.ntmps21
      go_wp2_with (go_at_call 37; (with_reducible refine kh.mono ?_); rintro e w1 ⟨rfl, rfl⟩)
      refine wp_region_held_drew (S := (fun X => X.cell? ⟨b, 33, none⟩ = some (.map (some m)))) (by kernel_rfl) hcD (fun hHeld => ?_)
      refine wpAnyH_take (i := 0) (oi := ?b1o) (v := ?b1v) ?b1h (by kernel_rfl) (by kernel_rfl) (by kernel_rfl) ?b1q ?b1y hHeld ?b1r
      case b1h => (simp only [List.getElem?_toArray, List.getElem?_cons_zero]; rfl)
      case b1q => exact fun _ _ _ h => h
      case b1y => (refine Or.inl ⟨by first | kernel_rfl | rfl, ?_⟩; intro w hSw; (try dsimp only at hSw); have y1 := hSw; go_simp <;> (try with_reducible rfl))
      try simp only [Act.put, List.setIfInBounds_toArray, List.set_cons_zero, List.set_cons_succ]
      refine wpAnyH_take (i := 1) (oi := ?b2o) (v := ?b2v) ?b2h (by kernel_rfl) (by kernel_rfl) (by kernel_rfl) ?b2q ?b2y hHeld ?b2r
      case b2h => (simp only [List.getElem?_toArray, List.getElem?_cons_succ, List.getElem?_cons_zero]; rfl)
      case b2q => exact fun _ _ _ h => h
      case b2y => (refine Or.inl ⟨by first | kernel_rfl | rfl, ?_⟩; intro w hSw; (try dsimp only at hSw); have y1 := hSw; go_simp <;> (try with_reducible rfl))
      try simp only [Act.put, List.setIfInBounds_toArray, List.set_cons_zero, List.set_cons_succ]
      refine wpAnyH_take (i := 2) (oi := ?b3o) (v := ?b3v) ?b3h (by kernel_rfl) (by kernel_rfl) (by kernel_rfl) ?b3q ?b3y hHeld ?b3r
      case b3h => (simp only [List.getElem?_toArray, List.getElem?_cons_succ, List.getElem?_cons_zero]; rfl)
      case b3q => exact fun _ _ _ h => h
      case b3y => (refine Or.inl ⟨by first | kernel_rfl | rfl, ?_⟩; intro w hSw; (try dsimp only at hSw); have y1 := hSw; go_simp <;> (try with_reducible rfl))
      try simp only [Act.put, List.setIfInBounds_toArray, List.set_cons_zero, List.set_cons_succ]
      refine wpAnyH_take (i := 3) (oi := ?b4o) (v := ?b4v) ?b4h (by kernel_rfl) (by kernel_rfl) (by kernel_rfl) ?b4q ?b4y hHeld ?b4r
      case b4h => (simp only [List.getElem?_toArray, List.getElem?_cons_succ, List.getElem?_cons_zero]; rfl)
      case b4q => exact fun _ _ _ h => h
      case b4y => (refine Or.inl ⟨by first | kernel_rfl | rfl, ?_⟩; intro w hSw; (try dsimp only at hSw); have y1 := hSw; go_simp <;> (try with_reducible rfl))
      try simp only [Act.put, List.setIfInBounds_toArray, List.set_cons_zero, List.set_cons_succ]
      refine wpAnyH_take (i := 4) (oi := ?b5o) (v := ?b5v) ?b5h (by kernel_rfl) (by kernel_rfl) (by kernel_rfl) ?b5q ?b5y hHeld ?b5r
      case b5h => (simp only [List.getElem?_toArray, List.getElem?_cons_succ, List.getElem?_cons_zero]; rfl)
      case b5q => exact fun _ _ _ h => h
      case b5y => (refine Or.inl ⟨by first | kernel_rfl | rfl, ?_⟩; intro w hSw; (try dsimp only at hSw); have y1 := hSw; go_simp <;> (try with_reducible rfl))
      try simp only [Act.put, List.setIfInBounds_toArray, List.set_cons_zero, List.set_cons_succ]
      refine wpAnyH_take (i := 5) (oi := ?b6o) (v := ?b6v) ?b6h (by kernel_rfl) (by kernel_rfl) (by kernel_rfl) ?b6q ?b6y hHeld ?b6r
      case b6h => (simp only [List.getElem?_toArray, List.getElem?_cons_succ, List.getElem?_cons_zero]; rfl)
      case b6q => exact fun _ _ _ h => h
      case b6y => (refine Or.inl ⟨by first | kernel_rfl | rfl, ?_⟩; intro w hSw; (try dsimp only at hSw); have y1 := hSw; go_simp <;> (try with_reducible rfl))
      try simp only [Act.put, List.setIfInBounds_toArray, List.set_cons_zero, List.set_cons_succ]
      refine wpAnyH_ready (rs := [6]) (by kernel_rfl) (by simp) ?_
      refine (AllReadyH.cons rfl (fun K hK => ?_) AllReadyH.nil)
      go_simp
      (go_at_call 42; (with_reducible refine (ks _ HL.out).mono ?_); rintro e w4 ⟨v, rfl, hR, hb4⟩; (obtain ⟨w5, hrun, hrd, hfr, hc5, hmd⟩ := HM.out.done hk H.out hB hy (HDR.out.trans hb4) hR hcnt (by omega) (Nat.le_trans (srtR_len l) (by omega)) (fun p hp => hnm p (srtR_mem l hp))); (have HRD := Lib.hid hrd); (have HFR := Lib.hid hfr); (have HMD := Lib.hid hmd); (have hc4 := (hb4.cell (p := ⟨b, 33, none⟩) hbl).trans hcD); clear hrd hfr hR hb4 hmd)
      refine hK.out _ _ (hc4) (fun hHeld => ?_)
      clear hK K
      try simp only [Act.put, List.setIfInBounds_toArray, List.set_cons_zero, List.set_cons_succ]
      refine wpAnyH_ready (rs := [7]) (by kernel_rfl) (by simp) ?_
      refine (AllReadyH.cons rfl (fun K hK => ?_) AllReadyH.nil)
      go_simp
      skip
      refine hK.out _ _ (hc5) (fun hHeld => ?_)
      clear hK K
      try simp only [Act.put]
      refine wpAnyH_done (by kernel_rfl) ?_ _
      go_wp2
      go_ret
      exact ⟨by rw [HY.out]; rfl, HRD.out, HFR.out, HMD.out⟩
set_option maxHeartbeats 2000000 in
theorem merged_is {w : World} {B0 B b : Nat} {R : RS} (h : RdG w B0 B b R) (hB : B ≤ w.heap.size) : Calls Try.prog 23 #[.pointer (some ⟨b, 0, none⟩)] w (OwnDone (mrgL R) w) := by
  have kh := rhave_is h.at_
  have hlen : ∀ L : List Int, L.length ≤ 16 → ((L.map R.an).flatten).length ≤ 16000 := fun L hL => by
    have : ∀ L : List Int, ((L.map R.an).flatten).length ≤ L.length * 1000 := fun L => by
      induction L with
      | nil => simp
      | cons x t ih =>
        rw [List.map_cons, List.flatten_cons, List.length_append, List.length_cons]
        have := h.len x
        omega
    have := this L
    omega
  have hnam : ∀ L : List Int, ∀ p ∈ (L.map R.an).flatten, p.s.size ≤ 1000 := fun L p hp => by
    obtain ⟨x, hx, hp⟩ := List.mem_flatten.1 hp
    obtain ⟨i, -, rfl⟩ := List.mem_map.1 hx
    exact h.nam i p hp
  have hnodes : ∀ i ∈ repL R.S, ∃ k : Nat, k < 16 ∧ i = (k : Int) := fun i hi => by
    unfold repL pickL at hi
    have := (pickK_mem.1 hi).1
    exact ⟨i.toNat, by omega, by omega⟩
  have hrl : (repL R.S).length ≤ 16 := by unfold repL pickL; exact pickK_len _ 16
  obtain ⟨N, hN⟩ : ∃ N, repL R.S = N := ⟨_, rfl⟩
  have HE := Lib.hid (show mrgL R = srtR ((N.map R.an).flatten) by unfold mrgL ansL; rw [hN])
  rw [hN] at kh hnodes hrl
  have km := fun a c (L : List (List Pt)) w h h1 h2 h3 => merge_is a c L w h h1 h2 h3
  have HLN := Lib.hid (hlen N hrl)
  have HNM := Lib.hid (hnam N)
  have HNO := Lib.hid hnodes
  have H := Lib.hid h
  clear h hlen hnam hnodes hN
  obtain ⟨n, hn⟩ : ∃ n, N.length = n := ⟨_, rfl⟩
  have HN := Lib.hid hn
  rw [hn] at hrl
  clear hn
  go_enter Try.func23, Try.ntmps23
  go_wp2_with (go_at_call 27; (with_reducible refine kh.mono ?_); rintro e w1 ⟨v, rfl, hR, hb1⟩; (have HR := Lib.hid hR); (have HB1 := Lib.hid hb1); (obtain ⟨a1, c1, rfl⟩ := hR.slice); (rw [HN.out] at HR); (rw [HN.out]); clear hR hb1)
  go_loopw [3, 9] (fun o i wr => ∃ k : Nat, k ≤ n ∧ i = .int .i64 (k : Int) ∧ LR wr B w1.heap.size o ((N.take k).map R.an) ∧ Below w1.heap.size w1 wr) (fun _ i _ => n - (intOf i).toNat)
  case atStart => exact ⟨0, by omega, rfl, LR.nil _ _ _, Below.refl _ _⟩
  case round =>
    obtain ⟨k, hk, rfl, hLR, hB2⟩ := hrel
    obtain ⟨w2, hw2⟩ : ∃ w2, w2 = wr := ⟨_, rfl⟩
    subst hw2
    obtain ⟨a3, d3, rfl⟩ := hLR.slice
    have hbw : Below w.heap.size w w2 := bel_next HB1.out hB2
    have HBW := Lib.hid hbw
    have hll : ((N.take k).map R.an).length = k := by rw [List.length_map, List.length_take, HN.out]; omega
    rw [hll]
    have HLL := Lib.hid hll
    have HLR := Lib.hid hLR
    have HB2 := Lib.hid hB2
    rw [hll] at HLR
    clear hll hLR
    by_cases hlt : k < n
    · have hlt2 : (k : Int) < (n : Int) := by omega
      obtain ⟨g, rfl, -, hgl, hc⟩ := (IRow.later HR.out hB2).cell (by rw [HN.out]; omega)
      have hkN : k < N.length := by rw [HN.out]; exact hlt
      have x1 := hc k hkN
      have HT := Lib.hid (show (N.take (k + 1)).map R.an = (N.take k).map R.an ++ [R.an N[k]] by rw [List.take_succ_eq_append_getElem hkN, List.map_append]; rfl)
      obtain ⟨j, hj, hNj⟩ := HNO.out _ (List.getElem_mem hkN)
      rw [hNj] at x1 HT
      obtain ⟨mv, a4, c4, y1, hrun, hP⟩ := (H.out.later hbw).look j hj
      have HPT := Lib.hid hP
      have HBL := H.out.at_.lt
      obtain ⟨l, hl⟩ : ∃ l, R.an (j : Int) = l := ⟨_, rfl⟩
      rw [hl] at HT hrun HPT
      obtain ⟨q, hq⟩ : ∃ q, l.length = q := ⟨_, rfl⟩
      rw [hq] at hrun HPT
      have HQ := Lib.hid hq
      have hsz2 := HB2.out.size
      have hsz1 := HB1.out.size
      clear hc hNj hP hl hq hbw hB2
      go_wp2_with (at_builtin; refine wpList_appLR (w := w2) rfl _ _ rfl B w1.heap.size k (.slice a3 k d3) ((N.take k).map R.an) a4 c4 q l w2.heap.size rfl rfl rfl HLL HLR.out HQ.out HPT.out (by omega) hsz2 ?_; intro a6 c6 w6 hLR6 hb6; (have HB6 := Lib.hid hb6); clear hb6)
      go_roundw
      case rel => exact ⟨k + 1, by omega, by go_num, by rw [HT.out]; exact hLR6.out, HB2.out.trans HB6.out⟩
      case measure => simp [intOf]; omega
    · obtain rfl : k = n := by omega
      have hT : N.take k = N := List.take_of_length_le (by rw [HN.out]; exact Nat.le_refl _)
      have hlls := HLR.out.lls
      rw [hT] at hlls
      have HLS := Lib.hid hlls
      have kmm := km a3 d3 (N.map R.an) w2 hlls (by rw [List.length_map, HN.out]; omega) (by have := HLN.out; omega) (fun p hp => Nat.le_trans (HNM.out p hp) (by decide))
      rw [List.length_map, HN.out] at kmm
      clear hT hlls hlt hB2 hbw
      go_wp2_with (go_at_call 43; (with_reducible refine kmm.mono ?_); rintro e w7 ⟨v7, rfl, hR7, hb7⟩; (have HR7 := Lib.hid hR7); (have HB7 := Lib.hid hb7); (obtain ⟨a7, c7, rfl⟩ := hR7.slice); clear hR7 hb7)
      go_ret
      exact ⟨_, rfl, by rw [HE.out]; exact HR7.out.base HBW.out.size, bel_next HBW.out HB7.out⟩
set_option maxHeartbeats 2000000 in
theorem merged_nil (w : World) : Calls Try.prog 23 #[.pointer none] w (OwnDone [] w) := by
  have kh := rhave_nil w
  have km := merge_is none 0 [] w ⟨Or.inl rfl⟩ (by simp) (by simp) (fun p hp => by simp at hp)
  rw [show srtR ([] : List (List Pt)).flatten = [] from rfl] at km
  simp only [List.length_nil] at km
  go_enter Try.func23, Try.ntmps23
  go_wp2_with (go_at_call 27; (with_reducible refine kh.mono ?_); rintro e w1 ⟨rfl, rfl⟩)
  refine wp_loop_rounds 1 ?_
  rw [rounds_succ]
  go_wp2_with (go_at_call 43; (with_reducible refine km.mono ?_); rintro e w7 ⟨v7, rfl, hR7, hb7⟩; (have HR7 := Lib.hid hR7); (have HB7 := Lib.hid hb7); (obtain ⟨a7, c7, rfl⟩ := hR7.slice); clear hR7 hb7)
  go_ret
  exact ⟨_, rfl, HR7.out, HB7.out⟩
theorem answer_nil (n : Int) (v : Value) (w : World) : Calls Try.prog 21 #[.pointer none, .int .i64 n, v] w fun e w' => e = .returned (.bool false) ∧ w = w' := by
  go_enter Try.func21, Try.ntmps21
  go_wp2
  go_ret
  exact ⟨rfl, rfl⟩
end Go.Proofs.Ytcjcbbpolhpphaa.Qu
