/- Rings in memory; slices.Clone; the small methods. -/
import Derived.Test.YtmmkbedheeeecaaRingPts
import Derived.Test.YtmmkbedheeeecaaRingIn
import Derived.Lib.SliceRun
set_option maxRecDepth 20000
set_option linter.unusedSimpArgs false
namespace Go.Proofs.Ytmmkbedheeeecaa
open Go.RowKit

/-- What a slice of the call's own must be for whoever holds it: numbers below 16. -/
def NOk (N : List Int) : Prop := N.length ≤ 16 ∧ ∀ n ∈ N, 0 ≤ n ∧ n ≤ 15
def POk (P : List Pt) : Prop := P.length ≤ 128 ∧ ∀ p ∈ P, (0 ≤ p.a ∧ p.a < 18446744073709551616) ∧ 0 ≤ p.n ∧ p.n ≤ 15
/-- A ring in block b: its number, its nodes, its points. -/
structure RingAt (w : World) (b : Nat) (v1 v2 : Value) (e : Int) (N : List Int) (P : List Pt) : Prop where
  c0 : w.cell? ⟨b, 0, none⟩ = some (.int .i64 e)
  c1 : w.cell? ⟨b, 1, none⟩ = some v1
  c2 : w.cell? ⟨b, 2, none⟩ = some v2
  r1 : IRow w 0 v1 N
  r2 : PRow w 0 61 v2 P
  nok : NOk N
  pok : POk P
theorem RingAt.room {w : World} {b : Nat} {v1 v2 : Value} {e : Int} {N : List Int} {P : List Pt} (h : RingAt w b v1 v2 e N P) : b < w.heap.size := World.block_lt_of_cell? w _ h.c0
theorem RingAt.later {w w' : World} {b : Nat} {v1 v2 : Value} {e : Int} {N : List Int} {P : List Pt} (h : RingAt w b v1 v2 e N P) (k : Below w.heap.size w w') : RingAt w' b v1 v2 e N P :=
  ⟨(k.cell (p := ⟨b, 0, none⟩) h.room).trans h.c0, (k.cell (p := ⟨b, 1, none⟩) h.room).trans h.c1, (k.cell (p := ⟨b, 2, none⟩) h.room).trans h.c2, h.r1.later k, h.r2.later k, h.nok, h.pok⟩
theorem NOk.wide {N : List Int} (h : NOk N) : ∀ n ∈ N, -9223372036854775808 ≤ n ∧ n ≤ 9223372036854775807 := fun n hn => by have := h.2 n hn; omega
theorem RingAt.ns {w : World} {b : Nat} {v1 v2 : Value} {e : Int} {N : List Int} {P : List Pt} (h : RingAt w b v1 v2 e N P) : Ns w v1 N := h.r1.ns h.nok.wide (by have := h.nok.1; omega)
/-- A ring somewhere. -/
def RingIs (w : World) (p : Value) (e : Int) (N : List Int) (P : List Pt) : Prop := ∃ b v1 v2, p = .pointer (some ⟨b, 0, none⟩) ∧ RingAt w b v1 v2 e N P
theorem RingIs.later {w w' : World} {p : Value} {e : Int} {N : List Int} {P : List Pt} (h : RingIs w p e N P) (k : Below w.heap.size w w') : RingIs w' p e N P := by
  obtain ⟨b, v1, v2, h1, h2⟩ := h; exact ⟨b, v1, v2, h1, h2.later k⟩
/-- A slice of numbers of the call's own. -/
def IDone (L : List Int) (w : World) (e : Ending) (w' : World) : Prop := ∃ v, e = .returned v ∧ IRow w' w.heap.size v L ∧ Below w.heap.size w w'
theorem clone_nil (w : World) : Calls Try.prog 33 #[.slice none 0 0] w (IDone [] w) := by
  have he := fun w => Lib.run_eql_slice_nil (P := Try.prog) w 27 3 none 0 0 0 0 Try.underlying27
  go_enter Try.func33, Try.ntmps33
  go_wp2
  go_ret
  exact ⟨_, rfl, IRow.nil _ _, Below.refl _ _⟩
set_option maxHeartbeats 1000000 in
theorem clone_some (g n c : Nat) (L : List Int) (w : World) (hn : Hid (L.length = n)) (hR : IRow w 0 (.slice (some ⟨g, 0, none⟩) n c) L) (hlen : n ≤ 1000000) : Calls Try.prog 33 #[.slice (some ⟨g, 0, none⟩) n c] w (IDone L w) := by
  obtain ⟨i0, hi, hz0, hz1, hz2⟩ := info_parts infoI
  have he := fun w => Lib.run_eql_slice_nil (P := Try.prog) w 27 3 (some ⟨g, 0, none⟩) n c 0 0 Try.underlying27
  have hgw : g < w.heap.size := (World.ownsRow.lt hR g rfl).2
  have hfl : (L.map icell).length = n * 1 := by rw [List.length_map, hn.out, Nat.mul_one]
  have hsrc : ∀ j u, (L.map icell)[j]? = some u → (w.alloc (.cells #[] 3)).cell? ((⟨g, 0, none⟩ : Addr).add j) = some u := fun j u hu => by
    have h1 := World.ownsRow.cells hR (g := g) rfl j u hu
    rw [Addr.add_lit] at h1 ⊢
    rw [World.cell?_alloc_past (w := w) _ g _ hgw]
    exact h1
  have hone : ∀ u ∈ L.map icell, u.oneCell' = true := fun u hu => by
    obtain ⟨x, -, rfl⟩ := List.mem_map.1 hu; rfl
  have hown := World.ownsRow_made (base := w.heap.size) (e := 3) (size := 1) w #[] 0 (Nat.le_refl _) (Nat.zero_le _) rfl
  clear hR
  go_enter Try.func33, Try.ntmps33
  go_wp2_with (at_builtin; refine wpList_append_own_at _ rfl _ _ 27 rfl w.heap.size 3 i0 (.int .i64 0) 1 8 Try.underlying27 hi hz0 hz1 hz2 rfl (by decide) _ _ _ rfl hown ⟨g, 0, none⟩ n c (L.map icell) rfl hfl hsrc hone ?c3 ?c4 ?c5 ?_)
  case c3 => unfold maxLen; omega
  case c4 => omega
  case c5 => simp
  intro v' w' hown' hgrow _ hfoot
  obtain ⟨a', c', rfl⟩ : ∃ a' c', v' = .slice a' n c' := by
    rcases hown'.2 with ⟨h, h0⟩ | ⟨g', cap', cur', h, _⟩
    · exact ⟨none, 0, by rw [h, show n = 0 by omega]⟩
    · exact ⟨_, _, by rw [h]⟩
  have HR := Lib.hid (show IRow w' w.heap.size (.slice a' n c') L by
    unfold IRow
    rw [hn.out]
    simpa using hown')
  have HB := Lib.hid (show Below w.heap.size w w' from ((Below.refl _ w).alloc (Nat.le_refl _) (.cells #[] 3)).grown hgrow (by simp) (fun q hq => (World.ownsRow.lt hown q hq).1))
  clear hown' hgrow hfoot hown hsrc
  go_wp2
  go_ret
  exact ⟨_, rfl, HR.out, HB.out⟩
theorem clone_is (v : Value) (B : Nat) (L : List Int) (w : World) (hR : IRow w B v L) (hlen : L.length ≤ 1000000) : Calls Try.prog 33 #[v] w (IDone L w) := by
  rcases hR.2 with ⟨rfl, h0⟩ | ⟨g, cap, cur, rfl, hB, hrest⟩
  · obtain rfl := List.eq_nil_of_length_eq_zero h0
    exact clone_nil w
  · exact clone_some g L.length cap L w (Lib.hid rfl) ⟨hR.1, Or.inr ⟨g, cap, cur, rfl, Nat.zero_le _, hrest⟩⟩ hlen
theorem epoch_is (b : Nat) (v1 v2 : Value) (ep : Int) (N : List Int) (P : List Pt) (w : World) (h : RingAt w b v1 v2 ep N P) : Calls Try.prog 23 #[.pointer (some ⟨b, 0, none⟩)] w fun e w' => e = .returned (.int .i64 ep) ∧ w = w' := by
  have c := h.c0
  clear h
  go_enter Try.func23, Try.ntmps23
  go_wp2
  go_ret
  exact ⟨rfl, rfl⟩
theorem nodes_is (b : Nat) (v1 v2 : Value) (e : Int) (N : List Int) (P : List Pt) (w : World) (h : RingAt w b v1 v2 e N P) : Calls Try.prog 19 #[.pointer (some ⟨b, 0, none⟩)] w (IDone N w) := by
  have c := h.c1
  have k := clone_is v1 0 N w h.r1 (by have := h.nok.1; omega)
  obtain ⟨a, cap, rfl⟩ := h.r1.slice
  clear h
  go_enter Try.func19, Try.ntmps19
  go_wp2_with (go_at_call 33; (with_reducible refine k.mono ?_); rintro e w1 ⟨v, rfl, hR, hB⟩; (have HR := Lib.hid hR); (have HB := Lib.hid hB); clear hR hB)
  go_ret
  exact ⟨_, rfl, HR.out, HB.out⟩
end Go.Proofs.Ytmmkbedheeeecaa
