/- The chapter's examples hold. -/
import Derived.Test.YtkgagedjjjaofaaMarkTell
import Derived.Test.YtkgagedjjjaofaaMarkBel
namespace Go.Proofs.Ytkgagedjjjaofaa
open Go.RowKit Go.Proofs.Ytkgagedjjjaofaa.Vi Go.Proofs.Ytkgagedjjjaofaa.Mk

/-- v is a slice of the numbers l. -/
abbrev Ns (w : World) (v : Value) (l : List Int) : Prop := Nums w w.heap.size v l
theorem Ns.later {w w' : World} {v : Value} {l : List Int} (h : Ns w v l) (k : Below w.heap.size w w') : Ns w' v l := (Nums.below h k).mono k.size (Nat.le_refl _)
theorem VDone.ns {l : List Int} {w w' : World} {e : Ending} (h : VDone l w e w') : ∃ v, e = .returned v ∧ Ns w' v l ∧ Below w.heap.size w w' := h
theorem atN (v : Value) (l : List Int) (s : Int) (w : World) (h : Ns w v l) (hs : -9223372036854775808 ≤ s ∧ s ≤ 9223372036854775807) : Calls Try.prog 33 #[v, .int .i64 s] w fun e w' => e = .returned (.int .i64 (atL l s)) ∧ w = w' := at_any v l s _ w h hs
theorem normalN (v : Value) (l : List Int) (w : World) (h : Ns w v l) : Calls Try.prog 57 #[v] w (VDone (plainL l) w) := normal_is v l _ w h
theorem joinN (v1 v2 : Value) (l1 l2 : List Int) (w : World) (h1 : Ns w v1 l1) (h2 : Ns w v2 l2) : Calls Try.prog 25 #[v1, v2] w (VDone (joinL l1 l2) w) := join_is v1 v2 l1 l2 _ _ w h1 h2
theorem meetN (v1 v2 : Value) (l1 l2 : List Int) (w : World) (h1 : Ns w v1 l1) (h2 : Ns w v2 l2) : Calls Try.prog 27 #[v1, v2] w (VDone (meetL l1 l2) w) := meet_is v1 v2 l1 l2 _ _ w h1 h2
theorem withN (v : Value) (l : List Int) (s n : Int) (w : World) (h : Ns w v l) : Calls Try.prog 29 #[v, .int .i64 s, .int .i64 n] w (VDone (withL l s n) w) := with_is v l s n _ w h
theorem coversN (v1 v2 : Value) (l1 l2 : List Int) (w : World) (h1 : Ns w v1 l1) (h2 : Ns w v2 l2) : Calls Try.prog 35 #[v1, v2] w fun e w' => e = .returned (.bool (covL l1 l2)) ∧ w = w' := covers_is v1 v2 l1 l2 _ _ w h1 h2
theorem compareN (v1 v2 : Value) (l1 l2 : List Int) (w : World) (h1 : Ns w v1 l1) (h2 : Ns w v2 l2) : Calls Try.prog 37 #[v1, v2] w fun e w' => e = .returned (.int .i64 (cmpL l1 l2)) ∧ w = w' := compare_is v1 v2 l1 l2 _ _ w h1 h2
theorem rsameN (v1 v2 : Value) (l1 l2 : List Int) (w : World) (h1 : Ns w v1 l1) (h2 : Ns w v2 l2) : Calls Try.prog 24 #[v1, v2] w fun e w' => e = .returned (.bool (sameL l1 l2)) ∧ Below w.heap.size w w' := rsame_is v1 v2 l1 l2 _ _ w h1 h2
theorem rightN (v : Value) (l : List Int) (w : World) (h : Ns w v l) : Calls Try.prog 31 #[v] w fun e w' => e = .returned (.bool (sameL l (plainL l))) ∧ Below w.heap.size w w' := right_is v l _ w h
theorem textN (v : Value) (l : List Int) (s : ByteArray) (w : World) (h : Ns w v l) (hs : Hid (tx (textL (plainL l)) = s)) : Calls Try.prog 41 #[v] w (TextDone s w) := text_is v l s _ w h hs

def Small (x : Int) : Prop := 0 ≤ x ∧ x ≤ 100
theorem lit1 (w : World) (b : Nat) (x : Int) (hc : w.cell? ⟨b, 0, none⟩ = some (.int .i64 x)) (hx : Small x) : Nums w w.heap.size (.slice (some ⟨b, 0, none⟩) 1 1) [x] :=
  ⟨⟨_, _, rfl, Or.inr ⟨b, 0, rfl, World.block_lt_of_cell? w _ hc, fun j hj => by
    match j, hj with
    | 0, _ => exact hc⟩⟩, fun n hn => by unfold Small at *; simp at hn; subst hn; omega, by simp, Nat.le_refl _⟩
theorem lit2 (w : World) (b : Nat) (x y : Int) (hc : w.cell? ⟨b, 0, none⟩ = some (.int .i64 x)) (hd : w.cell? ⟨b, 1, none⟩ = some (.int .i64 y)) (hx : Small x) (hy : Small y) : Nums w w.heap.size (.slice (some ⟨b, 0, none⟩) 2 2) [x, y] :=
  ⟨⟨_, _, rfl, Or.inr ⟨b, 0, rfl, World.block_lt_of_cell? w _ hc, fun j hj => by
    match j, hj with
    | 0, _ => exact hc
    | 1, _ => exact hd⟩⟩, fun n hn => by unfold Small at *; simp at hn; omega, by simp, Nat.le_refl _⟩
theorem lit3 (w : World) (b : Nat) (x y z : Int) (hc : w.cell? ⟨b, 0, none⟩ = some (.int .i64 x)) (hd : w.cell? ⟨b, 1, none⟩ = some (.int .i64 y)) (he : w.cell? ⟨b, 2, none⟩ = some (.int .i64 z)) (hx : Small x) (hy : Small y) (hz : Small z) : Nums w w.heap.size (.slice (some ⟨b, 0, none⟩) 3 3) [x, y, z] :=
  ⟨⟨_, _, rfl, Or.inr ⟨b, 0, rfl, World.block_lt_of_cell? w _ hc, fun j hj => by
    match j, hj with
    | 0, _ => exact hc
    | 1, _ => exact hd
    | 2, _ => exact he⟩⟩, fun n hn => by unfold Small at *; simp at hn; omega, by simp, Nat.le_refl _⟩
theorem awake_text : tx (textL (plainL [3, 0, 1])) = ⟨#[3, 3, 0, 1]⟩ := by
  have e : plainL [3, 0, 1] = [3, 0, 1] := by decide
  rw [e]
  show tx (enc 3 ++ (enc 3 ++ (enc 0 ++ (enc 1 ++ [])))) = _
  rw [enc_small (by omega), enc_small (by omega), enc_small (by omega)]; rfl

set_option maxHeartbeats 2000000 in
theorem awake_any (w : World) : Calls Try.prog 10 #[] w fun e w' => e = .returned (.bool true) ∧ Below w.heap.size w w' := by
  have j1 : sameL (joinL [3, 0, 1] [1, 2]) [3, 2, 1] = true := by decide
  have j2 : sameL (meetL [3, 0, 1] [1, 2]) [1] = true := by decide
  have m1 : cmpL [3, 1] [3, 1] = 0 := by decide
  have m2 : cmpL [3, 1] [3] = 1 := by decide
  have m3 : cmpL [3] [3, 1] = -1 := by decide
  have m4 : cmpL [3] [0, 1] = 2 := by decide
  have s0 : Small 0 := by unfold Small; omega
  have s1 : Small 1 := by unfold Small; omega
  have s2 : Small 2 := by unfold Small; omega
  have s3 : Small 3 := by unfold Small; omega
  have r1 := fun v1 v2 w h1 h2 => rsameN v1 v2 (joinL [3, 0, 1] [1, 2]) [3, 2, 1] w h1 h2
  have r2 := fun v1 v2 w h1 h2 => rsameN v1 v2 (meetL [3, 0, 1] [1, 2]) [1] w h1 h2
  have q1 := fun v1 v2 w h1 h2 => compareN v1 v2 [3, 1] [3, 1] w h1 h2
  have q2 := fun v1 v2 w h1 h2 => compareN v1 v2 [3, 1] [3] w h1 h2
  have q3 := fun v1 v2 w h1 h2 => compareN v1 v2 [3] [3, 1] w h1 h2
  have q4 := fun v1 v2 w h1 h2 => compareN v1 v2 [3] [0, 1] w h1 h2
  rw [j1] at r1
  rw [j2] at r2
  rw [m1] at q1
  rw [m2] at q2
  rw [m3] at q3
  rw [m4] at q4
  clear j1 j2 m1 m2 m3 m4
  have ht := fun v w h => textN v [3, 0, 1] _ w h (Lib.hid awake_text)
  go_enter Try.func10, Try.ntmps10
  go_wp2_with (first
    | (go_at_call 25; (with_reducible refine (joinN _ _ [3, 0, 1] [1, 2] _ ?h1 ?h2).mono ?_); (case h1 => (refine lit3 _ _ 3 0 1 ?_ ?_ ?_ s3 s0 s1 <;> (simp [go_sem]; done))); (case h2 => (refine lit2 _ _ 1 2 ?_ ?_ s1 s2 <;> (simp [go_sem]; done))); rintro e wJ hj; obtain ⟨vJ, rfl, hNJ, hbJ⟩ := hj.ns)
    | (go_at_call 27; (with_reducible refine (meetN _ _ [3, 0, 1] [1, 2] _ ?h1 ?h2).mono ?_); (case h1 => (refine lit3 _ _ 3 0 1 ?_ ?_ ?_ s3 s0 s1 <;> (simp [go_sem]; done))); (case h2 => (refine lit2 _ _ 1 2 ?_ ?_ s1 s2 <;> (simp [go_sem]; done))); rintro e wM hj; obtain ⟨vM, rfl, hNM, hbM⟩ := hj.ns)
    | (go_at_call 24; first
      | ((with_reducible refine (r2 _ _ _ ?h1 ?h2).mono ?_); (case h1 => exact hNM.later (bel_new (Below.refl _ _) _)); (case h2 => (refine lit1 _ _ 1 ?_ s1; simp [go_sem]; done)); rintro e wT ⟨rfl, hbT⟩)
      | ((with_reducible refine (r1 _ _ _ ?h1 ?h2).mono ?_); (case h1 => exact hNJ.later (bel_new (Below.refl _ _) _)); (case h2 => (refine lit3 _ _ 3 2 1 ?_ ?_ ?_ s3 s2 s1 <;> (simp [go_sem]; done))); rintro e wS ⟨rfl, hbS⟩))
    | (go_at_call 37; first
      | ((with_reducible refine (q1 _ _ _ ?h1 ?h2).mono ?_); (case h1 => (refine lit2 _ _ 3 1 ?_ ?_ s3 s1 <;> (simp [go_sem]; done))); (case h2 => (refine lit2 _ _ 3 1 ?_ ?_ s3 s1 <;> (simp [go_sem]; done))); rintro e wx ⟨rfl, rfl⟩)
      | ((with_reducible refine (q2 _ _ _ ?h1 ?h2).mono ?_); (case h1 => (refine lit2 _ _ 3 1 ?_ ?_ s3 s1 <;> (simp [go_sem]; done))); (case h2 => (refine lit1 _ _ 3 ?_ s3; simp [go_sem]; done)); rintro e wx ⟨rfl, rfl⟩)
      | ((with_reducible refine (q3 _ _ _ ?h1 ?h2).mono ?_); (case h1 => (refine lit1 _ _ 3 ?_ s3; simp [go_sem]; done)); (case h2 => (refine lit2 _ _ 3 1 ?_ ?_ s3 s1 <;> (simp [go_sem]; done))); rintro e wx ⟨rfl, rfl⟩)
      | ((with_reducible refine (q4 _ _ _ ?h1 ?h2).mono ?_); (case h1 => (refine lit1 _ _ 3 ?_ s3; simp [go_sem]; done)); (case h2 => (refine lit2 _ _ 0 1 ?_ ?_ s0 s1 <;> (simp [go_sem]; done))); rintro e wx ⟨rfl, rfl⟩))
    | (go_at_call 41; (with_reducible refine (ht _ _ ?h1).mono ?_); (case h1 => (refine lit3 _ _ 3 0 1 ?_ ?_ ?_ s3 s0 s1 <;> (simp [go_sem]; done))); rintro e wX ⟨rfl, hbX⟩))
  go_ret
  refine ⟨rfl, ?_⟩
  (repeat (first | exact Below.refl _ _ | refine below_drewN ?_ _ | refine Below.drew ?_ | (refine Below.setCell ?_ (by simp; try omega) _) | refine bel_new ?_ _ | (refine bel_next ?_ (by assumption))))
end Go.Proofs.Ytkgagedjjjaofaa
