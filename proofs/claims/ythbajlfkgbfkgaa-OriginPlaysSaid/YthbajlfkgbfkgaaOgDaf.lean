/- The document's After. -/
import Derived.Test.YthbajlfkgbfkgaaOgDge
set_option maxRecDepth 20000
set_option linter.unusedSimpArgs false
set_option linter.unusedVariables false
namespace Go.Proofs.Ythbajlfkgbfkgaa.Og
open Go.RowKit Go.Proofs.Ythbajlfkgbfkgaa.Vi Go.Proofs.Ythbajlfkgbfkgaa.Mk

theorem someL_step (V : List Int) (l : List Rec) (most : Int) (k : Nat) (h : k < l.length) : someL V (l.take (k + 1)) most = if beyB V l[k] = true ∧ ((someL V (l.take k) most).length : Int) < most then someL V (l.take k) most ++ [l[k]] else someL V (l.take k) most := by
  unfold someL
  rw [aftL_step V l k h]
  by_cases e : beyB V l[k] = true
  · rw [if_pos e]
    generalize aftL V (l.take k) = A
    by_cases c : A.length < most.toNat
    · rw [if_pos ⟨e, by rw [List.length_take]; omega⟩, List.take_of_length_le (by rw [List.length_append, List.length_singleton]; omega), List.take_of_length_le (by omega)]
    · rw [if_neg (fun k => by have := k.2; rw [List.length_take] at this; omega), List.take_append_of_le_length (by omega)]
  · rw [if_neg e, if_neg (fun k => e k.1)]
structure DaJ (w wr : World) (B b : Nat) (bv v : Value) (zs : List Rd) (S : OS) (V : List Int) (most : Int) (k : Nat) (af : Option Addr) (m cf : Nat) (ys : List Rd) : Prop where
  bel : Below w.heap.size w wr
  row : ORow wr w.heap.size (.slice af m cf) ys
  val : ys.map Rd.r = someL V (S.L.take k) most
  len : ys.length = m
  lk : m ≤ k
  mem : ∀ y ∈ ys, y ∈ zs
theorem DaJ.later {w wr W : World} {B b k m cf : Nat} {bv v : Value} {zs ys : List Rd} {S : OS} {V : List Int} {most : Int} {af : Option Addr} (h : DaJ w wr B b bv v zs S V most k af m cf ys) (hb : Below wr.heap.size wr W) : DaJ w W B b bv v zs S V most k af m cf ys :=
  ⟨bel_next h.bel hb, h.row.later hb, h.val, h.len, h.lk, h.mem⟩
theorem DaJ.app {w wr : World} {B b k m cf : Nat} {bv v : Value} {zs ys : List Rd} {S : OS} {V : List Int} {most : Int} {af : Option Addr} (h : DaJ w wr B b bv v zs S V most k af m cf ys) (z : Rd) (hz : z ∈ zs) (hv : someL V (S.L.take (k + 1)) most = someL V (S.L.take k) most ++ [z.r]) (hm : m + 1 ≤ 1000000) (ty : TypeId) :
    ∃ a5 c5 w5, (Builtin.append_ #[37, 37] ty #[.slice af m cf, .slice (some ⟨wr.heap.size, 0, none⟩) 1 1]).run Try.prog (wr.alloc (box9 z)) = .ok (.slice a5 (m + 1) c5) w5 ∧ ∃ ys', DaJ w w5 B b bv v zs S V most (k + 1) a5 (m + 1) c5 ys' := by
  have hal := (Below.refl wr.heap.size wr).alloc (Nat.le_refl _) (box9 z)
  have hsz := h.bel.size
  obtain ⟨a5, c5, w5, hrun, hrow, hgr, hnew⟩ := ORow.app (w := wr.alloc (box9 z)) (B := w.heap.size) (r := m) (N := wr.heap.size) (zs := ys) (v := .slice af m cf) (y := z) ty h.len (h.row.later hal) (R9.new _ _) (by omega) (by have := hal.size; omega)
  refine ⟨a5, c5, w5, hrun, ys ++ [z], ?_, hrow, by rw [hv, List.map_append, h.val]; rfl, by rw [List.length_append, h.len]; rfl, by have := h.lk; omega, fun y hy => ?_⟩
  · exact (bel_next h.bel hal).grown hgr (by have := hal.size; omega) (fun q hq => (h.row.lt hq).1)
  · rcases List.mem_append.1 hy with hy | hy
    · exact h.mem y hy
    · rw [List.mem_singleton] at hy; subst hy; exact hz
def DAftDone (S : OS) (V : List Int) (most : Int) (w : World) (e : Ending) (w' : World) : Prop := ∃ a c, e = .returned (.tuple #[.slice a (aftR S V most).length c, .bool (covL V S.base)]) ∧ RdL w' a (aftR S V most) ∧ Below w.heap.size w w'
set_option maxHeartbeats 8000000 in
theorem daftO_is {w : World} {B b : Nat} {bv v : Value} {zs : List Rd} {S : OS} (h : DAt w B b bv v zs S) (hg : Good S) (vv : Value) (V : List Int) (hV : Ns w vv V) (most : Int) : Calls Try.prog 15 #[.pointer (some ⟨b, 0, none⟩), vv, .int .i64 most] w (DAftDone S V most w) := by
  obtain ⟨a0, c0, rfl⟩ := h.row.slice
  obtain ⟨ab, cb, rfl⟩ := h.kn.slice
  obtain ⟨av, cv, rfl⟩ := hV.slice
  have c1 := h.c1
  have HO := Lib.hid h
  have HG := Lib.hid hg
  have HV := Lib.hid hV
  obtain ⟨n, hn⟩ : ∃ n, zs.length = n := ⟨_, rfl⟩
  have hlen := h.len
  have hl400 := hg.l400
  rw [hn] at hlen
  have h400 : n ≤ 400 := by omega
  have HN := Lib.hid hn
  have HLN := Lib.hid hlen
  have kc := rcovers_is _ _ V S.base w hV h.kn
  obtain ⟨z, hz⟩ : ∃ z, covL V S.base = z := ⟨_, rfl⟩
  rw [hz] at kc
  have HZ := Lib.hid hz
  have HC := Lib.hid (fun (W : World) (hW : Below w.heap.size w W) => (by have := (h.later hW).c2; rw [hn] at this; exact this : W.cell? ⟨b, 2, none⟩ = some (.slice a0 n c0)))
  clear h hg hV hn hlen hl400 hz
  cases z with
  | false =>
    go_enter Try.func15, Try.ntmps15
    go_wp2_with (go_at_call 31; (with_reducible refine kc.mono ?_); rintro e w1 ⟨rfl, hb1⟩; (have HB1 := Lib.hid hb1); clear hb1)
    go_ret2
    have e : aftR S V most = [] := by unfold aftR; rw [HZ.out]; rfl
    exact ⟨none, 0, by rw [e, HZ.out]; rfl, Or.inl e, HB1.out⟩
  | true =>
    have HE := Lib.hid (show aftR S V most = someL V S.L most by unfold aftR; rw [HZ.out]; rfl)
    go_enter Try.func15, Try.ntmps15
    go_wp2_with (go_at_call 31; (with_reducible refine kc.mono ?_); rintro e w1 ⟨rfl, hb1⟩; (have HB1 := Lib.hid hb1); clear hb1)
    have H0 := Lib.hid (show ∃ ys, DaJ w w1 B b (.slice ab S.base.length cb) (.slice a0 zs.length c0) zs S V most 0 none 0 0 ys from ⟨[], HB1.out, ORow.nil _ _, by rw [List.take_zero]; unfold someL aftL; simp, rfl, Nat.le_refl _, fun y hy => by cases hy⟩)
    go_loopw [9, 10] (fun o i wr => ∃ (k m : Nat) (af : Option Addr) (cf : Nat), k ≤ n ∧ o = .slice af m cf ∧ i = .int .i64 (k : Int) ∧ Hid (∃ ys, DaJ w wr B b (.slice ab S.base.length cb) (.slice a0 zs.length c0) zs S V most k af m cf ys)) (fun _ i _ => n - (intOf i).toNat)
    case atStart => exact ⟨0, 0, none, 0, by omega, rfl, rfl, H0⟩
    case round =>
      obtain ⟨k, m, af, cf, hk, rfl, rfl, HJ0⟩ := hrel
      clear H0
      obtain ⟨wr, hwr⟩ : ∃ x, x = wr := ⟨_, rfl⟩
      subst hwr
      obtain ⟨ys, hJ⟩ := HJ0.out
      have HJ := Lib.hid hJ
      have hmk := hJ.lk
      have c2 := HC.out _ hJ.bel
      by_cases hlt : k < n
      · have hlt2 : (k : Int) < (n : Int) := by omega
        have hkz : k < zs.length := by rw [HN.out]; exact hlt
        have hkL : k < S.L.length := by rw [← HLN.out]; exact hlt
        obtain ⟨g, off, rfl, -, -, hgl, hcs⟩ := ORow.cell HO.out.row (by omega)
        have hr9 := R9.later (hcs k hkz) hJ.bel
        obtain ⟨z, hz⟩ : ∃ z, zs[k] = z := ⟨_, rfl⟩
        have hzm : z ∈ zs := by rw [← hz]; exact List.getElem_mem hkz
        have hzr : z.r = S.L[k] := by rw [← hz]; exact HO.out.get hkz hkL
        have hst := someL_step V S.L most k hkL
        rw [← hzr, ← hJ.val, List.length_map, hJ.len, hJ.val] at hst
        rw [hz] at hr9
        obtain ⟨⟨zk, zss, zt, zv, ztier, ⟨zc, zst, zq⟩, zd⟩, za, zcc⟩ := z
        have HC2 := Lib.hid (fun (W : World) (hW : Below wr.heap.size wr W) => HC.out _ (bel_next hJ.bel hW))
        have HX6 := Lib.hid (fun (W : World) (hW : Below wr.heap.size wr W) => (R9.later hr9 hW).c6)
        have HX7 := Lib.hid (fun (W : World) (hW : Below wr.heap.size wr W) => (R9.later hr9 hW).c7)
        have HR9 := Lib.hid hr9
        have HIN := Lib.hid hzm
        dsimp only at HX6 HX7 hst
        obtain ⟨y, hy⟩ : ∃ y, atL V zst = y := ⟨_, rfl⟩
        have HKA := Lib.hid (fun (W : World) (hW : Below wr.heap.size wr W) => (by have := rat_is (.slice av V.length cv) V zst W (Ns.later (Ns.later HV.out hJ.bel) hW); rw [hy] at this; exact this : Calls Try.prog 19 #[.slice av V.length cv, .int .i64 zst] W fun e w' => e = .returned (.int .i64 y) ∧ Below W.heap.size W w'))
        have hby : beyB V ⟨zk, zss, zt, zv, ztier, ⟨zc, zst, zq⟩, zd⟩ = decide (y < zq) := by unfold beyB; dsimp only; rw [hy]
        rw [hby] at hst
        have hsame := fun (e : someL V (S.L.take (k + 1)) most = someL V (S.L.take k) most) (W : World) (hW : Below wr.heap.size wr W) => (show ∃ ys, DaJ w W B b (.slice ab S.base.length cb) (.slice (some ⟨g, off, none⟩) zs.length c0) zs S V most (k + 1) af m cf ys from ⟨ys, bel_next hJ.bel hW, hJ.row.later hW, by rw [e]; exact hJ.val, hJ.len, by omega, hJ.mem⟩)
        clear hcs hz hzr hgl hby hy hr9 hkz hkL hJ hzm HJ0
        by_cases h1 : y < zq
        · have g1 : decide (y < zq) = true := decide_eq_true h1
          by_cases h2 : (m : Int) < most
          · have HADD := Lib.hid (hst.trans (if_pos ⟨decide_eq_true h1, h2⟩))
            clear hst hsame
            go_wp2_with fail
            refine wp_region_held_drew (S := (fun X : World => Below wr.heap.size wr X)) (by kernel_rfl) (Below.refl _ _).drew (fun hHeld => ?_)
            refine wpAnyH_take (i := 0) (oi := ?o1o) (v := ?o1v) ?o1h (by kernel_rfl) (by kernel_rfl) (by kernel_rfl) ?o1q ?o1y hHeld ?o1r
            case o1h => (simp only [List.getElem?_toArray, List.getElem?_cons_zero]; rfl)
            case o1q => exact fun _ _ _ h => h
            case o1y => (refine Or.inl ⟨by first | kernel_rfl | rfl, ?_⟩; intro w hSw; (try dsimp only at hSw); have d2 := HC2.out _ hSw; have d6 := HX6.out _ hSw; have d7 := HX7.out _ hSw; go_simp <;> (try with_reducible rfl))
            try simp only [Act.put, List.setIfInBounds_toArray, List.set_cons_zero, List.set_cons_succ]
            refine wpAnyH_take (i := 1) (oi := ?o2o) (v := ?o2v) ?o2h (by kernel_rfl) (by kernel_rfl) (by kernel_rfl) ?o2q ?o2y hHeld ?o2r
            case o2h => (simp only [List.getElem?_toArray, List.getElem?_cons_succ, List.getElem?_cons_zero]; rfl)
            case o2q => exact fun _ _ _ h => h
            case o2y => (refine Or.inl ⟨by first | kernel_rfl | rfl, ?_⟩; intro w hSw; (try dsimp only at hSw); have d2 := HC2.out _ hSw; have d6 := HX6.out _ hSw; have d7 := HX7.out _ hSw; go_simp <;> (try with_reducible rfl))
            try simp only [Act.put, List.setIfInBounds_toArray, List.set_cons_zero, List.set_cons_succ]
            refine wpAnyH_take (i := 2) (oi := ?o3o) (v := ?o3v) ?o3h (by kernel_rfl) (by kernel_rfl) (by kernel_rfl) ?o3q ?o3y hHeld ?o3r
            case o3h => (simp only [List.getElem?_toArray, List.getElem?_cons_succ, List.getElem?_cons_zero]; rfl)
            case o3q => exact fun _ _ _ h => h
            case o3y => (refine Or.inl ⟨by first | kernel_rfl | rfl, ?_⟩; intro w hSw; (try dsimp only at hSw); have d2 := HC2.out _ hSw; have d6 := HX6.out _ hSw; have d7 := HX7.out _ hSw; go_simp <;> (try with_reducible rfl))
            try simp only [Act.put, List.setIfInBounds_toArray, List.set_cons_zero, List.set_cons_succ]
            refine wpAnyH_take (i := 3) (oi := ?o4o) (v := ?o4v) ?o4h (by kernel_rfl) (by kernel_rfl) (by kernel_rfl) ?o4q ?o4y hHeld ?o4r
            case o4h => (simp only [List.getElem?_toArray, List.getElem?_cons_succ, List.getElem?_cons_zero]; rfl)
            case o4q => exact fun _ _ _ h => h
            case o4y => (refine Or.inl ⟨by first | kernel_rfl | rfl, ?_⟩; intro w hSw; (try dsimp only at hSw); have d2 := HC2.out _ hSw; have d6 := HX6.out _ hSw; have d7 := HX7.out _ hSw; go_simp <;> (try with_reducible rfl))
            try simp only [Act.put, List.setIfInBounds_toArray, List.set_cons_zero, List.set_cons_succ]
            refine wpAnyH_take (i := 4) (oi := ?o5o) (v := ?o5v) ?o5h (by kernel_rfl) (by kernel_rfl) (by kernel_rfl) ?o5q ?o5y hHeld ?o5r
            case o5h => (simp only [List.getElem?_toArray, List.getElem?_cons_succ, List.getElem?_cons_zero]; rfl)
            case o5q => exact fun _ _ _ h => h
            case o5y => (refine Or.inl ⟨by first | kernel_rfl | rfl, ?_⟩; intro w hSw; (try dsimp only at hSw); have d2 := HC2.out _ hSw; have d6 := HX6.out _ hSw; have d7 := HX7.out _ hSw; go_simp <;> (try with_reducible rfl))
            try simp only [Act.put, List.setIfInBounds_toArray, List.set_cons_zero, List.set_cons_succ]
            refine wpAnyH_take (i := 5) (oi := ?o6o) (v := ?o6v) ?o6h (by kernel_rfl) (by kernel_rfl) (by kernel_rfl) ?o6q ?o6y hHeld ?o6r
            case o6h => (simp only [List.getElem?_toArray, List.getElem?_cons_succ, List.getElem?_cons_zero]; rfl)
            case o6q => exact fun _ _ _ h => h
            case o6y => (refine Or.inl ⟨by first | kernel_rfl | rfl, ?_⟩; intro w hSw; (try dsimp only at hSw); have d2 := HC2.out _ hSw; have d6 := HX6.out _ hSw; have d7 := HX7.out _ hSw; go_simp <;> (try with_reducible rfl))
            try simp only [Act.put, List.setIfInBounds_toArray, List.set_cons_zero, List.set_cons_succ]
            refine wpAnyH_take (i := 6) (oi := ?o7o) (v := ?o7v) ?o7h (by kernel_rfl) (by kernel_rfl) (by kernel_rfl) ?o7q ?o7y hHeld ?o7r
            case o7h => (simp only [List.getElem?_toArray, List.getElem?_cons_succ, List.getElem?_cons_zero]; rfl)
            case o7q => exact fun _ _ _ h => h
            case o7y => (refine Or.inl ⟨by first | kernel_rfl | rfl, ?_⟩; intro w hSw; (try dsimp only at hSw); have d2 := HC2.out _ hSw; have d6 := HX6.out _ hSw; have d7 := HX7.out _ hSw; go_simp <;> (try with_reducible rfl))
            try simp only [Act.put, List.setIfInBounds_toArray, List.set_cons_zero, List.set_cons_succ]
            refine wpAnyH_take (i := 7) (oi := ?o8o) (v := ?o8v) ?o8h (by kernel_rfl) (by kernel_rfl) (by kernel_rfl) ?o8q ?o8y hHeld ?o8r
            case o8h => (simp only [List.getElem?_toArray, List.getElem?_cons_succ, List.getElem?_cons_zero]; rfl)
            case o8q => exact fun _ _ _ h => h
            case o8y => (refine Or.inl ⟨by first | kernel_rfl | rfl, ?_⟩; intro w hSw; (try dsimp only at hSw); have d2 := HC2.out _ hSw; have d6 := HX6.out _ hSw; have d7 := HX7.out _ hSw; go_simp <;> (try with_reducible rfl))
            try simp only [Act.put, List.setIfInBounds_toArray, List.set_cons_zero, List.set_cons_succ]
            refine wpAnyH_take (i := 8) (oi := ?o9o) (v := ?o9v) ?o9h (by kernel_rfl) (by kernel_rfl) (by kernel_rfl) ?o9q ?o9y hHeld ?o9r
            case o9h => (simp only [List.getElem?_toArray, List.getElem?_cons_succ, List.getElem?_cons_zero]; rfl)
            case o9q => exact fun _ _ _ h => h
            case o9y => (refine Or.inl ⟨by first | kernel_rfl | rfl, ?_⟩; intro w hSw; (try dsimp only at hSw); have d2 := HC2.out _ hSw; have d6 := HX6.out _ hSw; have d7 := HX7.out _ hSw; go_simp <;> (try with_reducible rfl))
            try simp only [Act.put, List.setIfInBounds_toArray, List.set_cons_zero, List.set_cons_succ]
            refine wpAnyH_take (i := 9) (oi := ?o10o) (v := ?o10v) ?o10h (by kernel_rfl) (by kernel_rfl) (by kernel_rfl) ?o10q ?o10y hHeld ?o10r
            case o10h => (simp only [List.getElem?_toArray, List.getElem?_cons_succ, List.getElem?_cons_zero]; rfl)
            case o10q => exact fun _ _ _ h => h
            case o10y => (refine Or.inl ⟨by first | kernel_rfl | rfl, ?_⟩; intro w hSw; (try dsimp only at hSw); have d2 := HC2.out _ hSw; have d6 := HX6.out _ hSw; have d7 := HX7.out _ hSw; go_simp <;> (try with_reducible rfl))
            try simp only [Act.put, List.setIfInBounds_toArray, List.set_cons_zero, List.set_cons_succ]
            refine wpAnyH_take (i := 10) (oi := ?o11o) (v := ?o11v) ?o11h (by kernel_rfl) (by kernel_rfl) (by kernel_rfl) ?o11q ?o11y hHeld ?o11r
            case o11h => (simp only [List.getElem?_toArray, List.getElem?_cons_succ, List.getElem?_cons_zero]; rfl)
            case o11q => exact fun _ _ _ h => h
            case o11y => (refine Or.inl ⟨by first | kernel_rfl | rfl, ?_⟩; intro w hSw; (try dsimp only at hSw); have d2 := HC2.out _ hSw; have d6 := HX6.out _ hSw; have d7 := HX7.out _ hSw; go_simp <;> (try with_reducible rfl))
            try simp only [Act.put, List.setIfInBounds_toArray, List.set_cons_zero, List.set_cons_succ]
            refine wpAnyH_take (i := 11) (oi := ?o12o) (v := ?o12v) ?o12h (by kernel_rfl) (by kernel_rfl) (by kernel_rfl) ?o12q ?o12y hHeld ?o12r
            case o12h => (simp only [List.getElem?_toArray, List.getElem?_cons_succ, List.getElem?_cons_zero]; rfl)
            case o12q => exact fun _ _ _ h => h
            case o12y => (refine Or.inl ⟨by first | kernel_rfl | rfl, ?_⟩; intro w hSw; (try dsimp only at hSw); have d2 := HC2.out _ hSw; have d6 := HX6.out _ hSw; have d7 := HX7.out _ hSw; go_simp <;> (try with_reducible rfl))
            try simp only [Act.put, List.setIfInBounds_toArray, List.set_cons_zero, List.set_cons_succ]
            refine wpAnyH_take (i := 12) (oi := ?o13o) (v := ?o13v) ?o13h (by kernel_rfl) (by kernel_rfl) (by kernel_rfl) ?o13q ?o13y hHeld ?o13r
            case o13h => (simp only [List.getElem?_toArray, List.getElem?_cons_succ, List.getElem?_cons_zero]; rfl)
            case o13q => exact fun _ _ _ h => h
            case o13y => (refine Or.inl ⟨by first | kernel_rfl | rfl, ?_⟩; intro w hSw; (try dsimp only at hSw); have d2 := HC2.out _ hSw; have d6 := HX6.out _ hSw; have d7 := HX7.out _ hSw; go_simp <;> (try with_reducible rfl))
            try simp only [Act.put, List.setIfInBounds_toArray, List.set_cons_zero, List.set_cons_succ]
            refine wpAnyH_take (i := 13) (oi := ?o14o) (v := ?o14v) ?o14h (by kernel_rfl) (by kernel_rfl) (by kernel_rfl) ?o14q ?o14y hHeld ?o14r
            case o14h => (simp only [List.getElem?_toArray, List.getElem?_cons_succ, List.getElem?_cons_zero]; rfl)
            case o14q => exact fun _ _ _ h => h
            case o14y => (refine Or.inl ⟨by first | kernel_rfl | rfl, ?_⟩; intro w hSw; (try dsimp only at hSw); have d2 := HC2.out _ hSw; have d6 := HX6.out _ hSw; have d7 := HX7.out _ hSw; go_simp <;> (try with_reducible rfl))
            try simp only [Act.put, List.setIfInBounds_toArray, List.set_cons_zero, List.set_cons_succ]
            refine wpAnyH_take (i := 14) (oi := ?o15o) (v := ?o15v) ?o15h (by kernel_rfl) (by kernel_rfl) (by kernel_rfl) ?o15q ?o15y hHeld ?o15r
            case o15h => (simp only [List.getElem?_toArray, List.getElem?_cons_succ, List.getElem?_cons_zero]; rfl)
            case o15q => exact fun _ _ _ h => h
            case o15y => (refine Or.inl ⟨by first | kernel_rfl | rfl, ?_⟩; intro w hSw; (try dsimp only at hSw); have d2 := HC2.out _ hSw; have d6 := HX6.out _ hSw; have d7 := HX7.out _ hSw; go_simp <;> (try with_reducible rfl))
            try simp only [Act.put, List.setIfInBounds_toArray, List.set_cons_zero, List.set_cons_succ]
            refine wpAnyH_take (i := 15) (oi := ?o16o) (v := ?o16v) ?o16h (by kernel_rfl) (by kernel_rfl) (by kernel_rfl) ?o16q ?o16y hHeld ?o16r
            case o16h => (simp only [List.getElem?_toArray, List.getElem?_cons_succ, List.getElem?_cons_zero]; rfl)
            case o16q => exact fun _ _ _ h => h
            case o16y => (refine Or.inl ⟨by first | kernel_rfl | rfl, ?_⟩; intro w hSw; (try dsimp only at hSw); have d2 := HC2.out _ hSw; have d6 := HX6.out _ hSw; have d7 := HX7.out _ hSw; go_simp <;> (try with_reducible rfl))
            try simp only [Act.put, List.setIfInBounds_toArray, List.set_cons_zero, List.set_cons_succ]
            refine wpAnyH_take (i := 16) (oi := ?o17o) (v := ?o17v) ?o17h (by kernel_rfl) (by kernel_rfl) (by kernel_rfl) ?o17q ?o17y hHeld ?o17r
            case o17h => (simp only [List.getElem?_toArray, List.getElem?_cons_succ, List.getElem?_cons_zero]; rfl)
            case o17q => exact fun _ _ _ h => h
            case o17y => (refine Or.inl ⟨by first | kernel_rfl | rfl, ?_⟩; intro w hSw; (try dsimp only at hSw); have d2 := HC2.out _ hSw; have d6 := HX6.out _ hSw; have d7 := HX7.out _ hSw; go_simp <;> (try with_reducible rfl))
            try simp only [Act.put, List.setIfInBounds_toArray, List.set_cons_zero, List.set_cons_succ]
            refine wpAnyH_take (i := 17) (oi := ?o18o) (v := ?o18v) ?o18h (by kernel_rfl) (by kernel_rfl) (by kernel_rfl) ?o18q ?o18y hHeld ?o18r
            case o18h => (simp only [List.getElem?_toArray, List.getElem?_cons_succ, List.getElem?_cons_zero]; rfl)
            case o18q => exact fun _ _ _ h => h
            case o18y => (refine Or.inl ⟨by first | kernel_rfl | rfl, ?_⟩; intro w hSw; (try dsimp only at hSw); have d2 := HC2.out _ hSw; have d6 := HX6.out _ hSw; have d7 := HX7.out _ hSw; go_simp <;> (try with_reducible rfl))
            try simp only [Act.put, List.setIfInBounds_toArray, List.set_cons_zero, List.set_cons_succ]
            refine wpAnyH_take (i := 18) (oi := ?o19o) (v := ?o19v) ?o19h (by kernel_rfl) (by kernel_rfl) (by kernel_rfl) ?o19q ?o19y hHeld ?o19r
            case o19h => (simp only [List.getElem?_toArray, List.getElem?_cons_succ, List.getElem?_cons_zero]; rfl)
            case o19q => exact fun _ _ _ h => h
            case o19y => (refine Or.inl ⟨by first | kernel_rfl | rfl, ?_⟩; intro w hSw; (try dsimp only at hSw); have d2 := HC2.out _ hSw; have d6 := HX6.out _ hSw; have d7 := HX7.out _ hSw; go_simp <;> (try with_reducible rfl))
            try simp only [Act.put, List.setIfInBounds_toArray, List.set_cons_zero, List.set_cons_succ]
            refine wpAnyH_ready (rs := [19]) (by kernel_rfl) (by simp) ?_
            refine (AllReadyH.cons rfl (fun K hK => ?_) AllReadyH.nil)
            go_simp
            (go_at_call 19; (with_reducible refine (HKA.out _ hHeld).mono ?_); rintro e w7 ⟨rfl, hb7⟩)
            refine hK.out _ _ (bel_next hHeld hb7) (fun hHeld => ?_)
            clear hK K
            try simp only [Act.put, List.setIfInBounds_toArray, List.set_cons_zero, List.set_cons_succ]
            refine wpAnyH_take (i := 20) (oi := ?o20o) (v := ?o20v) ?o20h (by kernel_rfl) (by kernel_rfl) (by kernel_rfl) ?o20q ?o20y hHeld ?o20r
            case o20h => (simp only [List.getElem?_toArray, List.getElem?_cons_succ, List.getElem?_cons_zero]; rfl)
            case o20q => exact fun _ _ _ h => h
            case o20y => (refine Or.inl ⟨by first | kernel_rfl | rfl, ?_⟩; intro w hSw; (try dsimp only at hSw); have d2 := HC2.out _ hSw; have d6 := HX6.out _ hSw; have d7 := HX7.out _ hSw; go_simp <;> (try with_reducible rfl))
            try simp only [Act.put, List.setIfInBounds_toArray, List.set_cons_zero, List.set_cons_succ]
            refine wpAnyH_take (i := 21) (oi := ?o21o) (v := ?o21v) ?o21h (by kernel_rfl) (by kernel_rfl) (by kernel_rfl) ?o21q ?o21y hHeld ?o21r
            case o21h => (simp only [List.getElem?_toArray, List.getElem?_cons_succ, List.getElem?_cons_zero]; rfl)
            case o21q => exact fun _ _ _ h => h
            case o21y => (refine Or.inl ⟨by first | kernel_rfl | rfl, ?_⟩; intro w hSw; (try dsimp only at hSw); have d2 := HC2.out _ hSw; have d6 := HX6.out _ hSw; have d7 := HX7.out _ hSw; go_simp <;> (try with_reducible rfl))
            try simp only [Act.put, List.setIfInBounds_toArray, List.set_cons_zero, List.set_cons_succ]
            refine wpAnyH_take (i := 22) (oi := ?o22o) (v := ?o22v) ?o22h (by kernel_rfl) (by kernel_rfl) (by kernel_rfl) ?o22q ?o22y hHeld ?o22r
            case o22h => (simp only [List.getElem?_toArray, List.getElem?_cons_succ, List.getElem?_cons_zero]; rfl)
            case o22q => exact fun _ _ _ h => h
            case o22y => (refine Or.inl ⟨by first | kernel_rfl | rfl, ?_⟩; intro w hSw; (try dsimp only at hSw); have d2 := HC2.out _ hSw; have d6 := HX6.out _ hSw; have d7 := HX7.out _ hSw; go_simp <;> (try with_reducible rfl))
            try simp only [Act.put, List.setIfInBounds_toArray, List.set_cons_zero, List.set_cons_succ]
            refine wpAnyH_take (i := 23) (oi := ?o23o) (v := ?o23v) ?o23h (by kernel_rfl) (by kernel_rfl) (by kernel_rfl) ?o23q ?o23y hHeld ?o23r
            case o23h => (simp only [List.getElem?_toArray, List.getElem?_cons_succ, List.getElem?_cons_zero]; rfl)
            case o23q => exact fun _ _ _ h => h
            case o23y => (refine Or.inl ⟨by first | kernel_rfl | rfl, ?_⟩; intro w hSw; (try dsimp only at hSw); have d2 := HC2.out _ hSw; have d6 := HX6.out _ hSw; have d7 := HX7.out _ hSw; go_simp <;> (try with_reducible rfl))
            try simp only [Act.put, List.setIfInBounds_toArray, List.set_cons_zero, List.set_cons_succ]
            refine wpAnyH_take (i := 24) (oi := ?o24o) (v := ?o24v) ?o24h (by kernel_rfl) (by kernel_rfl) (by kernel_rfl) ?o24q ?o24y hHeld ?o24r
            case o24h => (simp only [List.getElem?_toArray, List.getElem?_cons_succ, List.getElem?_cons_zero]; rfl)
            case o24q => exact fun _ _ _ h => h
            case o24y => (refine Or.inl ⟨by first | kernel_rfl | rfl, ?_⟩; intro w hSw; (try dsimp only at hSw); have d2 := HC2.out _ hSw; have d6 := HX6.out _ hSw; have d7 := HX7.out _ hSw; go_simp <;> (try with_reducible rfl))
            try simp only [Act.put, List.setIfInBounds_toArray, List.set_cons_zero, List.set_cons_succ]
            refine wpAnyH_take (i := 25) (oi := ?o25o) (v := ?o25v) ?o25h (by kernel_rfl) (by kernel_rfl) (by kernel_rfl) ?o25q ?o25y hHeld ?o25r
            case o25h => (simp only [List.getElem?_toArray, List.getElem?_cons_succ, List.getElem?_cons_zero]; rfl)
            case o25q => exact fun _ _ _ h => h
            case o25y => (refine Or.inl ⟨by first | kernel_rfl | rfl, ?_⟩; intro w hSw; (try dsimp only at hSw); have d2 := HC2.out _ hSw; have d6 := HX6.out _ hSw; have d7 := HX7.out _ hSw; go_simp <;> (try with_reducible rfl))
            try simp only [Act.put, List.setIfInBounds_toArray, List.set_cons_zero, List.set_cons_succ]
            refine wpAnyH_take (i := 26) (oi := ?o26o) (v := ?o26v) ?o26h (by kernel_rfl) (by kernel_rfl) (by kernel_rfl) ?o26q ?o26y hHeld ?o26r
            case o26h => (simp only [List.getElem?_toArray, List.getElem?_cons_succ, List.getElem?_cons_zero]; rfl)
            case o26q => exact fun _ _ _ h => h
            case o26y => (refine Or.inl ⟨by first | kernel_rfl | rfl, ?_⟩; intro w hSw; (try dsimp only at hSw); have d2 := HC2.out _ hSw; have d6 := HX6.out _ hSw; have d7 := HX7.out _ hSw; go_simp <;> (try with_reducible rfl))
            try simp only [Act.put, List.setIfInBounds_toArray, List.set_cons_zero, List.set_cons_succ]
            refine wpAnyH_done (by kernel_rfl) ?_ _
            
            have hJ7 := HJ.out.later hHeld
            have HJ7 := Lib.hid hJ7
            have c2 := HC2.out _ hHeld
            obtain ⟨e0, e1, e2, e3, e4, e5, e6, e7, e8⟩ := R9.later HR9.out hHeld
            dsimp only at e0 e1 e2 e3 e4 e5 e6 e7 e8
            obtain ⟨a5, c5, w5, hrun, HR5⟩ := hJ7.app ⟨⟨zk, zss, zt, zv, ztier, ⟨zc, zst, zq⟩, zd⟩, za, zcc⟩ HIN.out HADD.out (by omega) 37
            unfold box9 at hrun
            dsimp only at hrun
            clear hJ7
            go_wp2_with (at_builtin; refine Lib.wpList_append_run _ rfl _ _ _ _ rfl _ _ rfl rfl _ _ hrun ?_)
            go_roundw
            case rel => exact ⟨k + 1, m + 1, a5, c5, by omega, rfl, by go_num, Lib.hid HR5⟩
            case measure => simp [intOf]; omega
          · have HSAME := Lib.hid (hsame (hst.trans (if_neg fun k => h2 k.2)))
            clear hst hsame
            go_wp2_with fail
            refine wp_region_held_drew (S := (fun X : World => Below wr.heap.size wr X)) (by kernel_rfl) (Below.refl _ _).drew (fun hHeld => ?_)
            refine wpAnyH_take (i := 0) (oi := ?p1o) (v := ?p1v) ?p1h (by kernel_rfl) (by kernel_rfl) (by kernel_rfl) ?p1q ?p1y hHeld ?p1r
            case p1h => (simp only [List.getElem?_toArray, List.getElem?_cons_zero]; rfl)
            case p1q => exact fun _ _ _ h => h
            case p1y => (refine Or.inl ⟨by first | kernel_rfl | rfl, ?_⟩; intro w hSw; (try dsimp only at hSw); have d2 := HC2.out _ hSw; have d6 := HX6.out _ hSw; have d7 := HX7.out _ hSw; go_simp <;> (try with_reducible rfl))
            try simp only [Act.put, List.setIfInBounds_toArray, List.set_cons_zero, List.set_cons_succ]
            refine wpAnyH_take (i := 1) (oi := ?p2o) (v := ?p2v) ?p2h (by kernel_rfl) (by kernel_rfl) (by kernel_rfl) ?p2q ?p2y hHeld ?p2r
            case p2h => (simp only [List.getElem?_toArray, List.getElem?_cons_succ, List.getElem?_cons_zero]; rfl)
            case p2q => exact fun _ _ _ h => h
            case p2y => (refine Or.inl ⟨by first | kernel_rfl | rfl, ?_⟩; intro w hSw; (try dsimp only at hSw); have d2 := HC2.out _ hSw; have d6 := HX6.out _ hSw; have d7 := HX7.out _ hSw; go_simp <;> (try with_reducible rfl))
            try simp only [Act.put, List.setIfInBounds_toArray, List.set_cons_zero, List.set_cons_succ]
            refine wpAnyH_take (i := 2) (oi := ?p3o) (v := ?p3v) ?p3h (by kernel_rfl) (by kernel_rfl) (by kernel_rfl) ?p3q ?p3y hHeld ?p3r
            case p3h => (simp only [List.getElem?_toArray, List.getElem?_cons_succ, List.getElem?_cons_zero]; rfl)
            case p3q => exact fun _ _ _ h => h
            case p3y => (refine Or.inl ⟨by first | kernel_rfl | rfl, ?_⟩; intro w hSw; (try dsimp only at hSw); have d2 := HC2.out _ hSw; have d6 := HX6.out _ hSw; have d7 := HX7.out _ hSw; go_simp <;> (try with_reducible rfl))
            try simp only [Act.put, List.setIfInBounds_toArray, List.set_cons_zero, List.set_cons_succ]
            refine wpAnyH_take (i := 3) (oi := ?p4o) (v := ?p4v) ?p4h (by kernel_rfl) (by kernel_rfl) (by kernel_rfl) ?p4q ?p4y hHeld ?p4r
            case p4h => (simp only [List.getElem?_toArray, List.getElem?_cons_succ, List.getElem?_cons_zero]; rfl)
            case p4q => exact fun _ _ _ h => h
            case p4y => (refine Or.inl ⟨by first | kernel_rfl | rfl, ?_⟩; intro w hSw; (try dsimp only at hSw); have d2 := HC2.out _ hSw; have d6 := HX6.out _ hSw; have d7 := HX7.out _ hSw; go_simp <;> (try with_reducible rfl))
            try simp only [Act.put, List.setIfInBounds_toArray, List.set_cons_zero, List.set_cons_succ]
            refine wpAnyH_take (i := 4) (oi := ?p5o) (v := ?p5v) ?p5h (by kernel_rfl) (by kernel_rfl) (by kernel_rfl) ?p5q ?p5y hHeld ?p5r
            case p5h => (simp only [List.getElem?_toArray, List.getElem?_cons_succ, List.getElem?_cons_zero]; rfl)
            case p5q => exact fun _ _ _ h => h
            case p5y => (refine Or.inl ⟨by first | kernel_rfl | rfl, ?_⟩; intro w hSw; (try dsimp only at hSw); have d2 := HC2.out _ hSw; have d6 := HX6.out _ hSw; have d7 := HX7.out _ hSw; go_simp <;> (try with_reducible rfl))
            try simp only [Act.put, List.setIfInBounds_toArray, List.set_cons_zero, List.set_cons_succ]
            refine wpAnyH_take (i := 5) (oi := ?p6o) (v := ?p6v) ?p6h (by kernel_rfl) (by kernel_rfl) (by kernel_rfl) ?p6q ?p6y hHeld ?p6r
            case p6h => (simp only [List.getElem?_toArray, List.getElem?_cons_succ, List.getElem?_cons_zero]; rfl)
            case p6q => exact fun _ _ _ h => h
            case p6y => (refine Or.inl ⟨by first | kernel_rfl | rfl, ?_⟩; intro w hSw; (try dsimp only at hSw); have d2 := HC2.out _ hSw; have d6 := HX6.out _ hSw; have d7 := HX7.out _ hSw; go_simp <;> (try with_reducible rfl))
            try simp only [Act.put, List.setIfInBounds_toArray, List.set_cons_zero, List.set_cons_succ]
            refine wpAnyH_take (i := 6) (oi := ?p7o) (v := ?p7v) ?p7h (by kernel_rfl) (by kernel_rfl) (by kernel_rfl) ?p7q ?p7y hHeld ?p7r
            case p7h => (simp only [List.getElem?_toArray, List.getElem?_cons_succ, List.getElem?_cons_zero]; rfl)
            case p7q => exact fun _ _ _ h => h
            case p7y => (refine Or.inl ⟨by first | kernel_rfl | rfl, ?_⟩; intro w hSw; (try dsimp only at hSw); have d2 := HC2.out _ hSw; have d6 := HX6.out _ hSw; have d7 := HX7.out _ hSw; go_simp <;> (try with_reducible rfl))
            try simp only [Act.put, List.setIfInBounds_toArray, List.set_cons_zero, List.set_cons_succ]
            refine wpAnyH_take (i := 7) (oi := ?p8o) (v := ?p8v) ?p8h (by kernel_rfl) (by kernel_rfl) (by kernel_rfl) ?p8q ?p8y hHeld ?p8r
            case p8h => (simp only [List.getElem?_toArray, List.getElem?_cons_succ, List.getElem?_cons_zero]; rfl)
            case p8q => exact fun _ _ _ h => h
            case p8y => (refine Or.inl ⟨by first | kernel_rfl | rfl, ?_⟩; intro w hSw; (try dsimp only at hSw); have d2 := HC2.out _ hSw; have d6 := HX6.out _ hSw; have d7 := HX7.out _ hSw; go_simp <;> (try with_reducible rfl))
            try simp only [Act.put, List.setIfInBounds_toArray, List.set_cons_zero, List.set_cons_succ]
            refine wpAnyH_take (i := 8) (oi := ?p9o) (v := ?p9v) ?p9h (by kernel_rfl) (by kernel_rfl) (by kernel_rfl) ?p9q ?p9y hHeld ?p9r
            case p9h => (simp only [List.getElem?_toArray, List.getElem?_cons_succ, List.getElem?_cons_zero]; rfl)
            case p9q => exact fun _ _ _ h => h
            case p9y => (refine Or.inl ⟨by first | kernel_rfl | rfl, ?_⟩; intro w hSw; (try dsimp only at hSw); have d2 := HC2.out _ hSw; have d6 := HX6.out _ hSw; have d7 := HX7.out _ hSw; go_simp <;> (try with_reducible rfl))
            try simp only [Act.put, List.setIfInBounds_toArray, List.set_cons_zero, List.set_cons_succ]
            refine wpAnyH_take (i := 9) (oi := ?p10o) (v := ?p10v) ?p10h (by kernel_rfl) (by kernel_rfl) (by kernel_rfl) ?p10q ?p10y hHeld ?p10r
            case p10h => (simp only [List.getElem?_toArray, List.getElem?_cons_succ, List.getElem?_cons_zero]; rfl)
            case p10q => exact fun _ _ _ h => h
            case p10y => (refine Or.inl ⟨by first | kernel_rfl | rfl, ?_⟩; intro w hSw; (try dsimp only at hSw); have d2 := HC2.out _ hSw; have d6 := HX6.out _ hSw; have d7 := HX7.out _ hSw; go_simp <;> (try with_reducible rfl))
            try simp only [Act.put, List.setIfInBounds_toArray, List.set_cons_zero, List.set_cons_succ]
            refine wpAnyH_take (i := 10) (oi := ?p11o) (v := ?p11v) ?p11h (by kernel_rfl) (by kernel_rfl) (by kernel_rfl) ?p11q ?p11y hHeld ?p11r
            case p11h => (simp only [List.getElem?_toArray, List.getElem?_cons_succ, List.getElem?_cons_zero]; rfl)
            case p11q => exact fun _ _ _ h => h
            case p11y => (refine Or.inl ⟨by first | kernel_rfl | rfl, ?_⟩; intro w hSw; (try dsimp only at hSw); have d2 := HC2.out _ hSw; have d6 := HX6.out _ hSw; have d7 := HX7.out _ hSw; go_simp <;> (try with_reducible rfl))
            try simp only [Act.put, List.setIfInBounds_toArray, List.set_cons_zero, List.set_cons_succ]
            refine wpAnyH_take (i := 11) (oi := ?p12o) (v := ?p12v) ?p12h (by kernel_rfl) (by kernel_rfl) (by kernel_rfl) ?p12q ?p12y hHeld ?p12r
            case p12h => (simp only [List.getElem?_toArray, List.getElem?_cons_succ, List.getElem?_cons_zero]; rfl)
            case p12q => exact fun _ _ _ h => h
            case p12y => (refine Or.inl ⟨by first | kernel_rfl | rfl, ?_⟩; intro w hSw; (try dsimp only at hSw); have d2 := HC2.out _ hSw; have d6 := HX6.out _ hSw; have d7 := HX7.out _ hSw; go_simp <;> (try with_reducible rfl))
            try simp only [Act.put, List.setIfInBounds_toArray, List.set_cons_zero, List.set_cons_succ]
            refine wpAnyH_take (i := 12) (oi := ?p13o) (v := ?p13v) ?p13h (by kernel_rfl) (by kernel_rfl) (by kernel_rfl) ?p13q ?p13y hHeld ?p13r
            case p13h => (simp only [List.getElem?_toArray, List.getElem?_cons_succ, List.getElem?_cons_zero]; rfl)
            case p13q => exact fun _ _ _ h => h
            case p13y => (refine Or.inl ⟨by first | kernel_rfl | rfl, ?_⟩; intro w hSw; (try dsimp only at hSw); have d2 := HC2.out _ hSw; have d6 := HX6.out _ hSw; have d7 := HX7.out _ hSw; go_simp <;> (try with_reducible rfl))
            try simp only [Act.put, List.setIfInBounds_toArray, List.set_cons_zero, List.set_cons_succ]
            refine wpAnyH_take (i := 13) (oi := ?p14o) (v := ?p14v) ?p14h (by kernel_rfl) (by kernel_rfl) (by kernel_rfl) ?p14q ?p14y hHeld ?p14r
            case p14h => (simp only [List.getElem?_toArray, List.getElem?_cons_succ, List.getElem?_cons_zero]; rfl)
            case p14q => exact fun _ _ _ h => h
            case p14y => (refine Or.inl ⟨by first | kernel_rfl | rfl, ?_⟩; intro w hSw; (try dsimp only at hSw); have d2 := HC2.out _ hSw; have d6 := HX6.out _ hSw; have d7 := HX7.out _ hSw; go_simp <;> (try with_reducible rfl))
            try simp only [Act.put, List.setIfInBounds_toArray, List.set_cons_zero, List.set_cons_succ]
            refine wpAnyH_take (i := 14) (oi := ?p15o) (v := ?p15v) ?p15h (by kernel_rfl) (by kernel_rfl) (by kernel_rfl) ?p15q ?p15y hHeld ?p15r
            case p15h => (simp only [List.getElem?_toArray, List.getElem?_cons_succ, List.getElem?_cons_zero]; rfl)
            case p15q => exact fun _ _ _ h => h
            case p15y => (refine Or.inl ⟨by first | kernel_rfl | rfl, ?_⟩; intro w hSw; (try dsimp only at hSw); have d2 := HC2.out _ hSw; have d6 := HX6.out _ hSw; have d7 := HX7.out _ hSw; go_simp <;> (try with_reducible rfl))
            try simp only [Act.put, List.setIfInBounds_toArray, List.set_cons_zero, List.set_cons_succ]
            refine wpAnyH_take (i := 15) (oi := ?p16o) (v := ?p16v) ?p16h (by kernel_rfl) (by kernel_rfl) (by kernel_rfl) ?p16q ?p16y hHeld ?p16r
            case p16h => (simp only [List.getElem?_toArray, List.getElem?_cons_succ, List.getElem?_cons_zero]; rfl)
            case p16q => exact fun _ _ _ h => h
            case p16y => (refine Or.inl ⟨by first | kernel_rfl | rfl, ?_⟩; intro w hSw; (try dsimp only at hSw); have d2 := HC2.out _ hSw; have d6 := HX6.out _ hSw; have d7 := HX7.out _ hSw; go_simp <;> (try with_reducible rfl))
            try simp only [Act.put, List.setIfInBounds_toArray, List.set_cons_zero, List.set_cons_succ]
            refine wpAnyH_take (i := 16) (oi := ?p17o) (v := ?p17v) ?p17h (by kernel_rfl) (by kernel_rfl) (by kernel_rfl) ?p17q ?p17y hHeld ?p17r
            case p17h => (simp only [List.getElem?_toArray, List.getElem?_cons_succ, List.getElem?_cons_zero]; rfl)
            case p17q => exact fun _ _ _ h => h
            case p17y => (refine Or.inl ⟨by first | kernel_rfl | rfl, ?_⟩; intro w hSw; (try dsimp only at hSw); have d2 := HC2.out _ hSw; have d6 := HX6.out _ hSw; have d7 := HX7.out _ hSw; go_simp <;> (try with_reducible rfl))
            try simp only [Act.put, List.setIfInBounds_toArray, List.set_cons_zero, List.set_cons_succ]
            refine wpAnyH_take (i := 17) (oi := ?p18o) (v := ?p18v) ?p18h (by kernel_rfl) (by kernel_rfl) (by kernel_rfl) ?p18q ?p18y hHeld ?p18r
            case p18h => (simp only [List.getElem?_toArray, List.getElem?_cons_succ, List.getElem?_cons_zero]; rfl)
            case p18q => exact fun _ _ _ h => h
            case p18y => (refine Or.inl ⟨by first | kernel_rfl | rfl, ?_⟩; intro w hSw; (try dsimp only at hSw); have d2 := HC2.out _ hSw; have d6 := HX6.out _ hSw; have d7 := HX7.out _ hSw; go_simp <;> (try with_reducible rfl))
            try simp only [Act.put, List.setIfInBounds_toArray, List.set_cons_zero, List.set_cons_succ]
            refine wpAnyH_take (i := 18) (oi := ?p19o) (v := ?p19v) ?p19h (by kernel_rfl) (by kernel_rfl) (by kernel_rfl) ?p19q ?p19y hHeld ?p19r
            case p19h => (simp only [List.getElem?_toArray, List.getElem?_cons_succ, List.getElem?_cons_zero]; rfl)
            case p19q => exact fun _ _ _ h => h
            case p19y => (refine Or.inl ⟨by first | kernel_rfl | rfl, ?_⟩; intro w hSw; (try dsimp only at hSw); have d2 := HC2.out _ hSw; have d6 := HX6.out _ hSw; have d7 := HX7.out _ hSw; go_simp <;> (try with_reducible rfl))
            try simp only [Act.put, List.setIfInBounds_toArray, List.set_cons_zero, List.set_cons_succ]
            refine wpAnyH_ready (rs := [19]) (by kernel_rfl) (by simp) ?_
            refine (AllReadyH.cons rfl (fun K hK => ?_) AllReadyH.nil)
            go_simp
            (go_at_call 19; (with_reducible refine (HKA.out _ hHeld).mono ?_); rintro e w7 ⟨rfl, hb7⟩)
            refine hK.out _ _ (bel_next hHeld hb7) (fun hHeld => ?_)
            clear hK K
            try simp only [Act.put, List.setIfInBounds_toArray, List.set_cons_zero, List.set_cons_succ]
            refine wpAnyH_take (i := 20) (oi := ?p20o) (v := ?p20v) ?p20h (by kernel_rfl) (by kernel_rfl) (by kernel_rfl) ?p20q ?p20y hHeld ?p20r
            case p20h => (simp only [List.getElem?_toArray, List.getElem?_cons_succ, List.getElem?_cons_zero]; rfl)
            case p20q => exact fun _ _ _ h => h
            case p20y => (refine Or.inl ⟨by first | kernel_rfl | rfl, ?_⟩; intro w hSw; (try dsimp only at hSw); have d2 := HC2.out _ hSw; have d6 := HX6.out _ hSw; have d7 := HX7.out _ hSw; go_simp <;> (try with_reducible rfl))
            try simp only [Act.put, List.setIfInBounds_toArray, List.set_cons_zero, List.set_cons_succ]
            refine wpAnyH_take (i := 21) (oi := ?p21o) (v := ?p21v) ?p21h (by kernel_rfl) (by kernel_rfl) (by kernel_rfl) ?p21q ?p21y hHeld ?p21r
            case p21h => (simp only [List.getElem?_toArray, List.getElem?_cons_succ, List.getElem?_cons_zero]; rfl)
            case p21q => exact fun _ _ _ h => h
            case p21y => (refine Or.inl ⟨by first | kernel_rfl | rfl, ?_⟩; intro w hSw; (try dsimp only at hSw); have d2 := HC2.out _ hSw; have d6 := HX6.out _ hSw; have d7 := HX7.out _ hSw; go_simp <;> (try with_reducible rfl))
            try simp only [Act.put, List.setIfInBounds_toArray, List.set_cons_zero, List.set_cons_succ]
            refine wpAnyH_take (i := 22) (oi := ?p22o) (v := ?p22v) ?p22h (by kernel_rfl) (by kernel_rfl) (by kernel_rfl) ?p22q ?p22y hHeld ?p22r
            case p22h => (simp only [List.getElem?_toArray, List.getElem?_cons_succ, List.getElem?_cons_zero]; rfl)
            case p22q => exact fun _ _ _ h => h
            case p22y => (refine Or.inl ⟨by first | kernel_rfl | rfl, ?_⟩; intro w hSw; (try dsimp only at hSw); have d2 := HC2.out _ hSw; have d6 := HX6.out _ hSw; have d7 := HX7.out _ hSw; go_simp <;> (try with_reducible rfl))
            try simp only [Act.put, List.setIfInBounds_toArray, List.set_cons_zero, List.set_cons_succ]
            refine wpAnyH_take (i := 23) (oi := ?p23o) (v := ?p23v) ?p23h (by kernel_rfl) (by kernel_rfl) (by kernel_rfl) ?p23q ?p23y hHeld ?p23r
            case p23h => (simp only [List.getElem?_toArray, List.getElem?_cons_succ, List.getElem?_cons_zero]; rfl)
            case p23q => exact fun _ _ _ h => h
            case p23y => (refine Or.inl ⟨by first | kernel_rfl | rfl, ?_⟩; intro w hSw; (try dsimp only at hSw); have d2 := HC2.out _ hSw; have d6 := HX6.out _ hSw; have d7 := HX7.out _ hSw; go_simp <;> (try with_reducible rfl))
            try simp only [Act.put, List.setIfInBounds_toArray, List.set_cons_zero, List.set_cons_succ]
            refine wpAnyH_take (i := 24) (oi := ?p24o) (v := ?p24v) ?p24h (by kernel_rfl) (by kernel_rfl) (by kernel_rfl) ?p24q ?p24y hHeld ?p24r
            case p24h => (simp only [List.getElem?_toArray, List.getElem?_cons_succ, List.getElem?_cons_zero]; rfl)
            case p24q => exact fun _ _ _ h => h
            case p24y => (refine Or.inl ⟨by first | kernel_rfl | rfl, ?_⟩; intro w hSw; (try dsimp only at hSw); have d2 := HC2.out _ hSw; have d6 := HX6.out _ hSw; have d7 := HX7.out _ hSw; go_simp <;> (try with_reducible rfl))
            try simp only [Act.put, List.setIfInBounds_toArray, List.set_cons_zero, List.set_cons_succ]
            refine wpAnyH_take (i := 25) (oi := ?p25o) (v := ?p25v) ?p25h (by kernel_rfl) (by kernel_rfl) (by kernel_rfl) ?p25q ?p25y hHeld ?p25r
            case p25h => (simp only [List.getElem?_toArray, List.getElem?_cons_succ, List.getElem?_cons_zero]; rfl)
            case p25q => exact fun _ _ _ h => h
            case p25y => (refine Or.inl ⟨by first | kernel_rfl | rfl, ?_⟩; intro w hSw; (try dsimp only at hSw); have d2 := HC2.out _ hSw; have d6 := HX6.out _ hSw; have d7 := HX7.out _ hSw; go_simp <;> (try with_reducible rfl))
            try simp only [Act.put, List.setIfInBounds_toArray, List.set_cons_zero, List.set_cons_succ]
            refine wpAnyH_take (i := 26) (oi := ?p26o) (v := ?p26v) ?p26h (by kernel_rfl) (by kernel_rfl) (by kernel_rfl) ?p26q ?p26y hHeld ?p26r
            case p26h => (simp only [List.getElem?_toArray, List.getElem?_cons_succ, List.getElem?_cons_zero]; rfl)
            case p26q => exact fun _ _ _ h => h
            case p26y => (refine Or.inl ⟨by first | kernel_rfl | rfl, ?_⟩; intro w hSw; (try dsimp only at hSw); have d2 := HC2.out _ hSw; have d6 := HX6.out _ hSw; have d7 := HX7.out _ hSw; go_simp <;> (try with_reducible rfl))
            try simp only [Act.put, List.setIfInBounds_toArray, List.set_cons_zero, List.set_cons_succ]
            refine wpAnyH_done (by kernel_rfl) ?_ _
            
            have HR7 := Lib.hid (HSAME.out _ hHeld)
            go_wp2
            go_roundw
            case rel => exact ⟨k + 1, m, af, cf, by omega, rfl, by go_num, HR7⟩
            case measure => simp [intOf]; omega
        · have g1 : decide (y < zq) = false := decide_eq_false h1
          have HSAME := Lib.hid (hsame (hst.trans (if_neg fun k => h1 (of_decide_eq_true k.1))))
          clear hst hsame
          go_wp2_with fail
          refine wp_region_held_drew (S := (fun X : World => Below wr.heap.size wr X)) (by kernel_rfl) (Below.refl _ _).drew (fun hHeld => ?_)
          refine wpAnyH_take (i := 0) (oi := ?q1o) (v := ?q1v) ?q1h (by kernel_rfl) (by kernel_rfl) (by kernel_rfl) ?q1q ?q1y hHeld ?q1r
          case q1h => (simp only [List.getElem?_toArray, List.getElem?_cons_zero]; rfl)
          case q1q => exact fun _ _ _ h => h
          case q1y => (refine Or.inl ⟨by first | kernel_rfl | rfl, ?_⟩; intro w hSw; (try dsimp only at hSw); have d2 := HC2.out _ hSw; have d6 := HX6.out _ hSw; have d7 := HX7.out _ hSw; go_simp <;> (try with_reducible rfl))
          try simp only [Act.put, List.setIfInBounds_toArray, List.set_cons_zero, List.set_cons_succ]
          refine wpAnyH_take (i := 1) (oi := ?q2o) (v := ?q2v) ?q2h (by kernel_rfl) (by kernel_rfl) (by kernel_rfl) ?q2q ?q2y hHeld ?q2r
          case q2h => (simp only [List.getElem?_toArray, List.getElem?_cons_succ, List.getElem?_cons_zero]; rfl)
          case q2q => exact fun _ _ _ h => h
          case q2y => (refine Or.inl ⟨by first | kernel_rfl | rfl, ?_⟩; intro w hSw; (try dsimp only at hSw); have d2 := HC2.out _ hSw; have d6 := HX6.out _ hSw; have d7 := HX7.out _ hSw; go_simp <;> (try with_reducible rfl))
          try simp only [Act.put, List.setIfInBounds_toArray, List.set_cons_zero, List.set_cons_succ]
          refine wpAnyH_take (i := 2) (oi := ?q3o) (v := ?q3v) ?q3h (by kernel_rfl) (by kernel_rfl) (by kernel_rfl) ?q3q ?q3y hHeld ?q3r
          case q3h => (simp only [List.getElem?_toArray, List.getElem?_cons_succ, List.getElem?_cons_zero]; rfl)
          case q3q => exact fun _ _ _ h => h
          case q3y => (refine Or.inl ⟨by first | kernel_rfl | rfl, ?_⟩; intro w hSw; (try dsimp only at hSw); have d2 := HC2.out _ hSw; have d6 := HX6.out _ hSw; have d7 := HX7.out _ hSw; go_simp <;> (try with_reducible rfl))
          try simp only [Act.put, List.setIfInBounds_toArray, List.set_cons_zero, List.set_cons_succ]
          refine wpAnyH_take (i := 3) (oi := ?q4o) (v := ?q4v) ?q4h (by kernel_rfl) (by kernel_rfl) (by kernel_rfl) ?q4q ?q4y hHeld ?q4r
          case q4h => (simp only [List.getElem?_toArray, List.getElem?_cons_succ, List.getElem?_cons_zero]; rfl)
          case q4q => exact fun _ _ _ h => h
          case q4y => (refine Or.inl ⟨by first | kernel_rfl | rfl, ?_⟩; intro w hSw; (try dsimp only at hSw); have d2 := HC2.out _ hSw; have d6 := HX6.out _ hSw; have d7 := HX7.out _ hSw; go_simp <;> (try with_reducible rfl))
          try simp only [Act.put, List.setIfInBounds_toArray, List.set_cons_zero, List.set_cons_succ]
          refine wpAnyH_take (i := 4) (oi := ?q5o) (v := ?q5v) ?q5h (by kernel_rfl) (by kernel_rfl) (by kernel_rfl) ?q5q ?q5y hHeld ?q5r
          case q5h => (simp only [List.getElem?_toArray, List.getElem?_cons_succ, List.getElem?_cons_zero]; rfl)
          case q5q => exact fun _ _ _ h => h
          case q5y => (refine Or.inl ⟨by first | kernel_rfl | rfl, ?_⟩; intro w hSw; (try dsimp only at hSw); have d2 := HC2.out _ hSw; have d6 := HX6.out _ hSw; have d7 := HX7.out _ hSw; go_simp <;> (try with_reducible rfl))
          try simp only [Act.put, List.setIfInBounds_toArray, List.set_cons_zero, List.set_cons_succ]
          refine wpAnyH_take (i := 5) (oi := ?q6o) (v := ?q6v) ?q6h (by kernel_rfl) (by kernel_rfl) (by kernel_rfl) ?q6q ?q6y hHeld ?q6r
          case q6h => (simp only [List.getElem?_toArray, List.getElem?_cons_succ, List.getElem?_cons_zero]; rfl)
          case q6q => exact fun _ _ _ h => h
          case q6y => (refine Or.inl ⟨by first | kernel_rfl | rfl, ?_⟩; intro w hSw; (try dsimp only at hSw); have d2 := HC2.out _ hSw; have d6 := HX6.out _ hSw; have d7 := HX7.out _ hSw; go_simp <;> (try with_reducible rfl))
          try simp only [Act.put, List.setIfInBounds_toArray, List.set_cons_zero, List.set_cons_succ]
          refine wpAnyH_take (i := 6) (oi := ?q7o) (v := ?q7v) ?q7h (by kernel_rfl) (by kernel_rfl) (by kernel_rfl) ?q7q ?q7y hHeld ?q7r
          case q7h => (simp only [List.getElem?_toArray, List.getElem?_cons_succ, List.getElem?_cons_zero]; rfl)
          case q7q => exact fun _ _ _ h => h
          case q7y => (refine Or.inl ⟨by first | kernel_rfl | rfl, ?_⟩; intro w hSw; (try dsimp only at hSw); have d2 := HC2.out _ hSw; have d6 := HX6.out _ hSw; have d7 := HX7.out _ hSw; go_simp <;> (try with_reducible rfl))
          try simp only [Act.put, List.setIfInBounds_toArray, List.set_cons_zero, List.set_cons_succ]
          refine wpAnyH_take (i := 7) (oi := ?q8o) (v := ?q8v) ?q8h (by kernel_rfl) (by kernel_rfl) (by kernel_rfl) ?q8q ?q8y hHeld ?q8r
          case q8h => (simp only [List.getElem?_toArray, List.getElem?_cons_succ, List.getElem?_cons_zero]; rfl)
          case q8q => exact fun _ _ _ h => h
          case q8y => (refine Or.inl ⟨by first | kernel_rfl | rfl, ?_⟩; intro w hSw; (try dsimp only at hSw); have d2 := HC2.out _ hSw; have d6 := HX6.out _ hSw; have d7 := HX7.out _ hSw; go_simp <;> (try with_reducible rfl))
          try simp only [Act.put, List.setIfInBounds_toArray, List.set_cons_zero, List.set_cons_succ]
          refine wpAnyH_take (i := 8) (oi := ?q9o) (v := ?q9v) ?q9h (by kernel_rfl) (by kernel_rfl) (by kernel_rfl) ?q9q ?q9y hHeld ?q9r
          case q9h => (simp only [List.getElem?_toArray, List.getElem?_cons_succ, List.getElem?_cons_zero]; rfl)
          case q9q => exact fun _ _ _ h => h
          case q9y => (refine Or.inl ⟨by first | kernel_rfl | rfl, ?_⟩; intro w hSw; (try dsimp only at hSw); have d2 := HC2.out _ hSw; have d6 := HX6.out _ hSw; have d7 := HX7.out _ hSw; go_simp <;> (try with_reducible rfl))
          try simp only [Act.put, List.setIfInBounds_toArray, List.set_cons_zero, List.set_cons_succ]
          refine wpAnyH_take (i := 9) (oi := ?q10o) (v := ?q10v) ?q10h (by kernel_rfl) (by kernel_rfl) (by kernel_rfl) ?q10q ?q10y hHeld ?q10r
          case q10h => (simp only [List.getElem?_toArray, List.getElem?_cons_succ, List.getElem?_cons_zero]; rfl)
          case q10q => exact fun _ _ _ h => h
          case q10y => (refine Or.inl ⟨by first | kernel_rfl | rfl, ?_⟩; intro w hSw; (try dsimp only at hSw); have d2 := HC2.out _ hSw; have d6 := HX6.out _ hSw; have d7 := HX7.out _ hSw; go_simp <;> (try with_reducible rfl))
          try simp only [Act.put, List.setIfInBounds_toArray, List.set_cons_zero, List.set_cons_succ]
          refine wpAnyH_take (i := 10) (oi := ?q11o) (v := ?q11v) ?q11h (by kernel_rfl) (by kernel_rfl) (by kernel_rfl) ?q11q ?q11y hHeld ?q11r
          case q11h => (simp only [List.getElem?_toArray, List.getElem?_cons_succ, List.getElem?_cons_zero]; rfl)
          case q11q => exact fun _ _ _ h => h
          case q11y => (refine Or.inl ⟨by first | kernel_rfl | rfl, ?_⟩; intro w hSw; (try dsimp only at hSw); have d2 := HC2.out _ hSw; have d6 := HX6.out _ hSw; have d7 := HX7.out _ hSw; go_simp <;> (try with_reducible rfl))
          try simp only [Act.put, List.setIfInBounds_toArray, List.set_cons_zero, List.set_cons_succ]
          refine wpAnyH_take (i := 11) (oi := ?q12o) (v := ?q12v) ?q12h (by kernel_rfl) (by kernel_rfl) (by kernel_rfl) ?q12q ?q12y hHeld ?q12r
          case q12h => (simp only [List.getElem?_toArray, List.getElem?_cons_succ, List.getElem?_cons_zero]; rfl)
          case q12q => exact fun _ _ _ h => h
          case q12y => (refine Or.inl ⟨by first | kernel_rfl | rfl, ?_⟩; intro w hSw; (try dsimp only at hSw); have d2 := HC2.out _ hSw; have d6 := HX6.out _ hSw; have d7 := HX7.out _ hSw; go_simp <;> (try with_reducible rfl))
          try simp only [Act.put, List.setIfInBounds_toArray, List.set_cons_zero, List.set_cons_succ]
          refine wpAnyH_take (i := 12) (oi := ?q13o) (v := ?q13v) ?q13h (by kernel_rfl) (by kernel_rfl) (by kernel_rfl) ?q13q ?q13y hHeld ?q13r
          case q13h => (simp only [List.getElem?_toArray, List.getElem?_cons_succ, List.getElem?_cons_zero]; rfl)
          case q13q => exact fun _ _ _ h => h
          case q13y => (refine Or.inl ⟨by first | kernel_rfl | rfl, ?_⟩; intro w hSw; (try dsimp only at hSw); have d2 := HC2.out _ hSw; have d6 := HX6.out _ hSw; have d7 := HX7.out _ hSw; go_simp <;> (try with_reducible rfl))
          try simp only [Act.put, List.setIfInBounds_toArray, List.set_cons_zero, List.set_cons_succ]
          refine wpAnyH_take (i := 13) (oi := ?q14o) (v := ?q14v) ?q14h (by kernel_rfl) (by kernel_rfl) (by kernel_rfl) ?q14q ?q14y hHeld ?q14r
          case q14h => (simp only [List.getElem?_toArray, List.getElem?_cons_succ, List.getElem?_cons_zero]; rfl)
          case q14q => exact fun _ _ _ h => h
          case q14y => (refine Or.inl ⟨by first | kernel_rfl | rfl, ?_⟩; intro w hSw; (try dsimp only at hSw); have d2 := HC2.out _ hSw; have d6 := HX6.out _ hSw; have d7 := HX7.out _ hSw; go_simp <;> (try with_reducible rfl))
          try simp only [Act.put, List.setIfInBounds_toArray, List.set_cons_zero, List.set_cons_succ]
          refine wpAnyH_take (i := 14) (oi := ?q15o) (v := ?q15v) ?q15h (by kernel_rfl) (by kernel_rfl) (by kernel_rfl) ?q15q ?q15y hHeld ?q15r
          case q15h => (simp only [List.getElem?_toArray, List.getElem?_cons_succ, List.getElem?_cons_zero]; rfl)
          case q15q => exact fun _ _ _ h => h
          case q15y => (refine Or.inl ⟨by first | kernel_rfl | rfl, ?_⟩; intro w hSw; (try dsimp only at hSw); have d2 := HC2.out _ hSw; have d6 := HX6.out _ hSw; have d7 := HX7.out _ hSw; go_simp <;> (try with_reducible rfl))
          try simp only [Act.put, List.setIfInBounds_toArray, List.set_cons_zero, List.set_cons_succ]
          refine wpAnyH_take (i := 15) (oi := ?q16o) (v := ?q16v) ?q16h (by kernel_rfl) (by kernel_rfl) (by kernel_rfl) ?q16q ?q16y hHeld ?q16r
          case q16h => (simp only [List.getElem?_toArray, List.getElem?_cons_succ, List.getElem?_cons_zero]; rfl)
          case q16q => exact fun _ _ _ h => h
          case q16y => (refine Or.inl ⟨by first | kernel_rfl | rfl, ?_⟩; intro w hSw; (try dsimp only at hSw); have d2 := HC2.out _ hSw; have d6 := HX6.out _ hSw; have d7 := HX7.out _ hSw; go_simp <;> (try with_reducible rfl))
          try simp only [Act.put, List.setIfInBounds_toArray, List.set_cons_zero, List.set_cons_succ]
          refine wpAnyH_take (i := 16) (oi := ?q17o) (v := ?q17v) ?q17h (by kernel_rfl) (by kernel_rfl) (by kernel_rfl) ?q17q ?q17y hHeld ?q17r
          case q17h => (simp only [List.getElem?_toArray, List.getElem?_cons_succ, List.getElem?_cons_zero]; rfl)
          case q17q => exact fun _ _ _ h => h
          case q17y => (refine Or.inl ⟨by first | kernel_rfl | rfl, ?_⟩; intro w hSw; (try dsimp only at hSw); have d2 := HC2.out _ hSw; have d6 := HX6.out _ hSw; have d7 := HX7.out _ hSw; go_simp <;> (try with_reducible rfl))
          try simp only [Act.put, List.setIfInBounds_toArray, List.set_cons_zero, List.set_cons_succ]
          refine wpAnyH_take (i := 17) (oi := ?q18o) (v := ?q18v) ?q18h (by kernel_rfl) (by kernel_rfl) (by kernel_rfl) ?q18q ?q18y hHeld ?q18r
          case q18h => (simp only [List.getElem?_toArray, List.getElem?_cons_succ, List.getElem?_cons_zero]; rfl)
          case q18q => exact fun _ _ _ h => h
          case q18y => (refine Or.inl ⟨by first | kernel_rfl | rfl, ?_⟩; intro w hSw; (try dsimp only at hSw); have d2 := HC2.out _ hSw; have d6 := HX6.out _ hSw; have d7 := HX7.out _ hSw; go_simp <;> (try with_reducible rfl))
          try simp only [Act.put, List.setIfInBounds_toArray, List.set_cons_zero, List.set_cons_succ]
          refine wpAnyH_take (i := 18) (oi := ?q19o) (v := ?q19v) ?q19h (by kernel_rfl) (by kernel_rfl) (by kernel_rfl) ?q19q ?q19y hHeld ?q19r
          case q19h => (simp only [List.getElem?_toArray, List.getElem?_cons_succ, List.getElem?_cons_zero]; rfl)
          case q19q => exact fun _ _ _ h => h
          case q19y => (refine Or.inl ⟨by first | kernel_rfl | rfl, ?_⟩; intro w hSw; (try dsimp only at hSw); have d2 := HC2.out _ hSw; have d6 := HX6.out _ hSw; have d7 := HX7.out _ hSw; go_simp <;> (try with_reducible rfl))
          try simp only [Act.put, List.setIfInBounds_toArray, List.set_cons_zero, List.set_cons_succ]
          refine wpAnyH_ready (rs := [19]) (by kernel_rfl) (by simp) ?_
          refine (AllReadyH.cons rfl (fun K hK => ?_) AllReadyH.nil)
          go_simp
          (go_at_call 19; (with_reducible refine (HKA.out _ hHeld).mono ?_); rintro e w7 ⟨rfl, hb7⟩)
          refine hK.out _ _ (bel_next hHeld hb7) (fun hHeld => ?_)
          clear hK K
          try simp only [Act.put, List.setIfInBounds_toArray, List.set_cons_zero, List.set_cons_succ]
          refine wpAnyH_take (i := 20) (oi := ?q20o) (v := ?q20v) ?q20h (by kernel_rfl) (by kernel_rfl) (by kernel_rfl) ?q20q ?q20y hHeld ?q20r
          case q20h => (simp only [List.getElem?_toArray, List.getElem?_cons_succ, List.getElem?_cons_zero]; rfl)
          case q20q => exact fun _ _ _ h => h
          case q20y => (refine Or.inl ⟨by first | kernel_rfl | rfl, ?_⟩; intro w hSw; (try dsimp only at hSw); have d2 := HC2.out _ hSw; have d6 := HX6.out _ hSw; have d7 := HX7.out _ hSw; go_simp <;> (try with_reducible rfl))
          try simp only [Act.put, List.setIfInBounds_toArray, List.set_cons_zero, List.set_cons_succ]
          refine wpAnyH_take (i := 21) (oi := ?q21o) (v := ?q21v) ?q21h (by kernel_rfl) (by kernel_rfl) (by kernel_rfl) ?q21q ?q21y hHeld ?q21r
          case q21h => (simp only [List.getElem?_toArray, List.getElem?_cons_succ, List.getElem?_cons_zero]; rfl)
          case q21q => exact fun _ _ _ h => h
          case q21y => (refine Or.inl ⟨by first | kernel_rfl | rfl, ?_⟩; intro w hSw; (try dsimp only at hSw); have d2 := HC2.out _ hSw; have d6 := HX6.out _ hSw; have d7 := HX7.out _ hSw; go_simp <;> (try with_reducible rfl))
          try simp only [Act.put, List.setIfInBounds_toArray, List.set_cons_zero, List.set_cons_succ]
          refine wpAnyH_take (i := 22) (oi := ?q22o) (v := undef) ?q22h (by kernel_rfl) (by kernel_rfl) (by kernel_rfl) ?q22q ?q22y hHeld ?q22r
          case q22h => (simp only [List.getElem?_toArray, List.getElem?_cons_succ, List.getElem?_cons_zero]; rfl)
          case q22q => exact fun _ _ _ h => h
          case q22y => exact Or.inr ⟨by first | kernel_rfl | rfl, rfl⟩
          try simp only [Act.put, List.setIfInBounds_toArray, List.set_cons_zero, List.set_cons_succ]
          refine wpAnyH_take (i := 23) (oi := ?q23o) (v := undef) ?q23h (by kernel_rfl) (by kernel_rfl) (by kernel_rfl) ?q23q ?q23y hHeld ?q23r
          case q23h => (simp only [List.getElem?_toArray, List.getElem?_cons_succ, List.getElem?_cons_zero]; rfl)
          case q23q => exact fun _ _ _ h => h
          case q23y => exact Or.inr ⟨by first | kernel_rfl | rfl, rfl⟩
          try simp only [Act.put, List.setIfInBounds_toArray, List.set_cons_zero, List.set_cons_succ]
          refine wpAnyH_take (i := 24) (oi := ?q24o) (v := undef) ?q24h (by kernel_rfl) (by kernel_rfl) (by kernel_rfl) ?q24q ?q24y hHeld ?q24r
          case q24h => (simp only [List.getElem?_toArray, List.getElem?_cons_succ, List.getElem?_cons_zero]; rfl)
          case q24q => exact fun _ _ _ h => h
          case q24y => exact Or.inr ⟨by first | kernel_rfl | rfl, rfl⟩
          try simp only [Act.put, List.setIfInBounds_toArray, List.set_cons_zero, List.set_cons_succ]
          refine wpAnyH_take (i := 25) (oi := ?q25o) (v := undef) ?q25h (by kernel_rfl) (by kernel_rfl) (by kernel_rfl) ?q25q ?q25y hHeld ?q25r
          case q25h => (simp only [List.getElem?_toArray, List.getElem?_cons_succ, List.getElem?_cons_zero]; rfl)
          case q25q => exact fun _ _ _ h => h
          case q25y => exact Or.inr ⟨by first | kernel_rfl | rfl, rfl⟩
          try simp only [Act.put, List.setIfInBounds_toArray, List.set_cons_zero, List.set_cons_succ]
          refine wpAnyH_take (i := 26) (oi := ?q26o) (v := ?q26v) ?q26h (by kernel_rfl) (by kernel_rfl) (by kernel_rfl) ?q26q ?q26y hHeld ?q26r
          case q26h => (simp only [List.getElem?_toArray, List.getElem?_cons_succ, List.getElem?_cons_zero]; rfl)
          case q26q => exact fun _ _ _ h => h
          case q26y => (refine Or.inl ⟨by first | kernel_rfl | rfl, ?_⟩; intro w hSw; (try dsimp only at hSw); have d2 := HC2.out _ hSw; have d6 := HX6.out _ hSw; have d7 := HX7.out _ hSw; go_simp <;> (try with_reducible rfl))
          try simp only [Act.put, List.setIfInBounds_toArray, List.set_cons_zero, List.set_cons_succ]
          refine wpAnyH_done (by kernel_rfl) ?_ _
          
          have HR7 := Lib.hid (HSAME.out _ hHeld)
          go_wp2
          go_roundw
          case rel => exact ⟨k + 1, m, af, cf, by omega, rfl, by go_num, HR7⟩
          case measure => simp [intOf]; omega
      · obtain rfl : k = n := by omega
        have hlt2 : ¬ (k : Int) < (k : Int) := by omega
        have hT : S.L.take k = S.L := List.take_of_length_le (by rw [HLN.out]; exact Nat.le_refl _)
        have hval := hJ.val
        rw [hT, ← HE.out] at hval
        have HVAL := Lib.hid hval
        have HM := Lib.hid (show m = (aftR S V most).length by rw [← hval, List.length_map, hJ.len])
        have HRD := Lib.hid (show RdL wr af (aftR S V most) from RdL.ofO hJ.row hval fun y hy => Ns.later (HO.out.deps y (hJ.mem y hy)) hJ.bel)
        clear hlt hT hval hJ HJ0
        go_wp2
        go_ret2
        exact ⟨_, _, by rw [HZ.out, ← HM.out]; rfl, HRD.out, HJ.out.bel⟩
theorem daft_is {w : World} {B b : Nat} {S : OS} {M F : Nat → Prop} (h : LogD w B b S M F) (vv : Value) (V : List Int) (hV : Ns w vv V) (most : Int) : Calls Try.prog 15 #[.pointer (some ⟨b, 0, none⟩), vv, .int .i64 most] w (DAftDone S V most w) := by
  obtain ⟨bv, v, zs, hp⟩ := h.part
  exact daftO_is hp.at_ hp.good vv V hV most
end Go.Proofs.Ythbajlfkgbfkgaa.Og
