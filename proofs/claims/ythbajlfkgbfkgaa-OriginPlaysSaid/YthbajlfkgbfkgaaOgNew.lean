/- New; the law's record. -/
import Derived.Test.YthbajlfkgbfkgaaOgAdd
import Derived.Test.YthbajlfkgbfkgaaOgGet
set_option maxRecDepth 20000
set_option linter.unusedSimpArgs false
set_option linter.unusedVariables false
namespace Go.Proofs.Ythbajlfkgbfkgaa.Og
open Go.RowKit Go.Proofs.Ythbajlfkgbfkgaa.Vi Go.Proofs.Ythbajlfkgbfkgaa.Mk

theorem new1_is (k p : Nat) (v : Value) (l : List Int) (u : World) (c : u.cell? ⟨p, 0, none⟩ = some v) (h : Ns u v l) (hk : k < 8) :
    Calls Try.prog 35 #[.int .i64 (k : Int), .pointer (some ⟨p, 0, none⟩)] u fun e u' => e = .returned (.int .i64 (atL l (k : Int))) ∧ Below u.heap.size u u' := by
  have hA := atN v l (k : Int) u h (by omega)
  clear hk
  go_enter Try.func35, Try.ntmps35
  go_wp2_with (go_at_call 36; (with_reducible refine hA.mono ?_); rintro e w1 ⟨rfl, rfl⟩)
  go_ret
  exact ⟨rfl, Below.refl _ _⟩
def NewDone (room : Int) (base : List Int) (w : World) (e : Ending) (w' : World) : Prop := ∃ b, e = .returned (.pointer (some ⟨b, 0, none⟩)) ∧ w.heap.size ≤ b ∧ (∀ B, B ≤ w.heap.size → LogAt w' B b (newS room base) (fun q => w.heap.size ≤ q ∧ q < w'.heap.size)) ∧ Below w.heap.size w w'
set_option maxHeartbeats 1000000 in
theorem new_is (room : Int) (v : Value) (l : List Int) (w : World) (h : Ns w v l) : Calls Try.prog 10 #[.int .i64 room, v] w (NewDone room l w) := by
  obtain ⟨a, c, rfl⟩ := h.slice
  have hal := (Below.refl w.heap.size w).alloc (Nat.le_refl _) (.cells #[.slice a l.length c] 22)
  have HAL := Lib.hid hal
  have hmf := makeFunc_run
  have hN := Ns.later h hal
  have hc : (w.alloc (.cells #[.slice a l.length c] 22)).cell? ⟨w.heap.size, 0, none⟩ = some (.slice a l.length c) := by simp [go_sem]
  have hK := Lib.hid (ovec_new (.pointer (some ⟨w.heap.size, 0, none⟩)) (fun i => atL l (i : Int)) (w.alloc (.cells #[.slice a l.length c] 22)) (fun k hk u hu => new1_is k w.heap.size _ l u ((hu.cell (p := ⟨w.heap.size, 0, none⟩) (cell_lt hc)).trans hc) (Ns.later hN hu) hk))
  have HP := Lib.hid (show (vec fun i => cl (atL l (i : Int))) = plainL l from vec_congr fun i _ => cl_in (atL_bounds _ _).1 (atL_bounds _ _).2)
  clear h hal hN hc
  go_enter Try.func10, Try.ntmps10
  go_wp2_with (first
    | (go_at_call 34; (with_reducible refine hK.out.mono ?_); rintro e w2 ⟨v2, rfl, hn2, hb2, hf2⟩
       obtain ⟨a2, c2, rfl⟩ := hn2.slice
       rw [HP.out] at hn2 hf2
       have HN2 := Lib.hid hn2
       have HB2 := Lib.hid hb2
       have HF2 := Lib.hid hf2
       rw [HP.out]
       clear hn2 hb2 hf2))
  go_ret
  have hbw : Below w.heap.size w (w2.alloc (.cells #[.int .i64 (min (max room 0) 400), .slice a2 (plainL l).length c2, .slice none 0 0, .int .i64 0] 58)) := bel_new (bel_next HAL.out HB2.out) _
  have hs2 : w.heap.size < w2.heap.size := by have := HB2.out.size; simp at this; omega
  have hF : ∀ q, (Value.slice a2 (plainL l).length c2).ownBlock = some q → w.heap.size ≤ q ∧ q < w2.heap.size := fun q hq => by
    have := HF2.out q hq
    simp only [World.size_alloc] at this
    exact ⟨by omega, this.2⟩
  refine ⟨w2.heap.size, rfl, by omega, fun B hB => ⟨⟨_, _, [], ⟨heap_alloc_new w2 _, by omega, ORow.nil _ _, ?_, fun x hx => (by cases hx), fun q hq => ?_, fun x hx => (by cases hx), rfl, newS_good room l⟩, fun q hq => ?_⟩, fun q hq => ⟨by omega, hq.2⟩⟩, hbw⟩
  · exact Ns.later HN2.out ((Below.refl _ _).alloc (Nat.le_refl _) _)
  · have := hF q hq
    exact ⟨by omega, by rw [World.size_alloc]; omega, by omega, fun e => by cases e⟩
  · rcases hq with e | e | e | ⟨x, hx, _⟩
    · subst e; exact ⟨by omega, by rw [World.size_alloc]; omega⟩
    · cases e
    · have := hF q e; exact ⟨this.1, by rw [World.size_alloc]; omega⟩
    · cases hx
/-- The law's record. -/
def lawR (s q : Int) (d : List Int) : Rec := ⟨1, ⟨#[97]⟩, q, 0, 0, ⟨q, s, q⟩, d⟩
def RecDone (s q : Int) (d : List Int) (dv : Value) (w : World) (e : Ending) (w' : World) : Prop := e = .returned (recV (lawR s q d) dv) ∧ Below w.heap.size w w'
theorem record_is (s q : Int) (a : Option Addr) (c : Nat) (d : List Int) (w : World) : Calls Try.prog 33 #[.int .i64 s, .int .i64 q, .slice a d.length c] w (RecDone s q d (.slice a d.length c) w) := by
  obtain ⟨n, hn⟩ : ∃ n, d.length = n := ⟨_, rfl⟩
  rw [hn]
  have HN := Lib.hid hn
  clear hn
  go_enter Try.func33, Try.ntmps33
  go_wp2
  refine bodyPost_ret (v := recV (lawR s q d) (.slice a n c)) (by unfold recV lawR; simp [results, Try.results33, go_sem]; try rfl) rfl ⟨rfl, ?_⟩
  first | exact (Below.refl _ _).alloc (Nat.le_refl _) _ | trace_state
end Go.Proofs.Ythbajlfkgbfkgaa.Og
