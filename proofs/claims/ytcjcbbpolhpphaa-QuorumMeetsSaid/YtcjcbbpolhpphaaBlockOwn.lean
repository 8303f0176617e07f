/- The contracts of slices.Clone at points, and of own. -/
import Derived.Test.YtcjcbbpolhpphaaBlockRow
import Derived.Test.YtcjcbbpolhpphaaVintB
import Derived.Deep.RegionHeld
import Derived.Test.YtcjcbbpolhpphaaBlockSorted
import Derived.Lib.SliceRun
set_option maxRecDepth 20000
set_option linter.unusedSimpArgs false
namespace Go.Proofs.Ytcjcbbpolhpphaa
open Go.RowKit Go.Proofs.Ytcjcbbpolhpphaa.Vi Go.Proofs.Ytcjcbbpolhpphaa.Mk

/-- Of lists of points: what a function hands out is its own row. -/
def OwnDone (l : List Pt) (w : World) (e : Ending) (w' : World) : Prop := ∃ v, e = .returned v ∧ PRow w' w.heap.size v l ∧ Below w.heap.size w w'
theorem setCell_noop {w : World} {b o : Nat} {v : Value} (h : w.cell? ⟨b, o, none⟩ = some v) : w.setCell ⟨b, o, none⟩ v = w := by
  unfold World.cell? at h
  unfold World.setCell
  obtain ⟨heap, tape, drawn, os, output⟩ := w
  dsimp only at *
  congr 1
  apply Array.ext
  · simp
  · intro i h1 h2
    rw [Array.getElem_modify]
    split
    · rename_i e
      subst e
      have hb : heap[b]? = some heap[b] := Array.getElem?_eq_getElem h2
      rw [hb] at h
      cases hq : heap[b] with
      | cells c t f =>
        rw [hq] at h
        simp at h
        simp only [Option.isSome_none, Bool.false_eq_true, if_false]
        congr 1
        apply Array.ext
        · simp
        · intro j g1 g2
          rw [Array.getElem_setIfInBounds]
          split
          · rename_i e
            subst e
            rw [Array.getElem?_eq_getElem g2] at h
            exact (Option.some.inj h).symm
          · rfl
      | _ => rfl
    · rfl

set_option maxHeartbeats 4000000 in
theorem clone6_is (a0 : Option Addr) (c0 : Nat) (l : List Pt) (w : World) (hS : Lst w w.heap.size a0 c0 l) (hl : l.length ≤ 900000) : Calls Try.prog 62 #[.slice a0 l.length c0] w (OwnDone l w) := by
  cases a0 with
  | none =>
    have h1 := hS.cap
    have h2 := hS.no rfl
    obtain rfl : l = [] := List.eq_nil_of_length_eq_zero (by omega)
    clear h1 hS
    subst h2
    have he := fun w => Lib.run_eql_slice_nil (P := Try.prog) w PTT 55 none 0 0 0 0 Try.underlying35
    go_enter Try.func62, Try.ntmps62
    go_wp2
    go_ret
    exact ⟨_, rfl, PRow.nil _ _, Below.refl _ _⟩
  | some ad =>
    have HS := Lib.hid hS
    have HE := Lib.hid (show PRow (w.alloc (.cells #[] 55)) w.heap.size (.slice (some ⟨w.heap.size, 0, none⟩) 0 0) [] from World.ownsRow_made w #[] 0 (Nat.le_refl _) (by decide) (by simp))
    have he := fun w => Lib.run_eql_slice_nil (P := Try.prog) w PTT 55 (some ad) l.length c0 0 0 Try.underlying35
    clear hS
    go_enter Try.func62, Try.ntmps62
    go_wp2_with (at_builtin; refine wpList_appN rfl _ _ rfl w.heap.size 0 _ [] l (some ad) l.length c0 w.heap.size rfl rfl rfl (Lib.hid rfl) HE.out (HS.out.below ((Below.refl _ _).alloc (Nat.le_refl _) _)) ?c1 ?c2 ?_)
    case c1 => omega
    case c2 => simp
    intro a' c' w' hrow _ hb _
    have HR := Lib.hid hrow.out
    have HB := Lib.hid (((Below.refl w.heap.size w).alloc (Nat.le_refl _) _).trans hb)
    clear hrow hb
    go_wp2
    go_ret
    exact ⟨_, rfl, by simpa using HR.out, HB.out⟩
theorem PRow.soft {w : World} {B b o n c : Nat} {l : List Pt} (h : PRow w B (.slice (some ⟨b, o, none⟩) n c) l) (i : Nat) : w.frozen? ⟨b, i, none⟩ = false := by
  rcases h.2 with ⟨e, _⟩ | ⟨g, cap, cur, e, _, hb, _⟩
  · cases e
  · injection e with e1
    injection e1 with e1
    injection e1 with e1 e2
    subst e1
    unfold World.frozen?
    dsimp only
    rw [hb]
    simp

set_option maxHeartbeats 8000000 in
theorem own_is (a0 : Option Addr) (c0 : Nat) (l : List Pt) (w : World) (hS : Lst w w.heap.size a0 c0 l) (hl : l.length ≤ 900000) (hn : ∀ p ∈ l, p.s.size ≤ 100000) : Calls Try.prog 56 #[.slice a0 l.length c0] w (OwnDone l w) := by
  have kc := fun w => clone6_is a0 c0 l w
  have HS := Lib.hid hS
  have HN := Lib.hid hn
  clear hS hn
  go_enter Try.func56, Try.ntmps56
  go_wp2_with (go_at_call 62; (with_reducible refine (kc _ HS.out hl).mono ?_); rintro e w1 ⟨v, rfl, hR, hB⟩; (have hsl := hR.slice); (obtain ⟨a1, c1, rfl⟩ := hsl); (have HR := Lib.hid hR); (have HB := Lib.hid hB); clear hR hB kc)
  go_loopw [8] (fun i wr => ∃ (k : Nat), k ≤ l.length ∧ i = .int .i64 (k : Int) ∧ PRow wr w.heap.size (.slice a1 l.length c1) l ∧ Below w.heap.size w wr) (fun i _ => l.length - (intOf i).toNat)
  case atStart => exact ⟨0, by omega, rfl, HR.out, HB.out⟩
  case round =>
    obtain ⟨k, hk, rfl, hR, hB⟩ := hrel
    clear HR HB
    by_cases hlt : k < l.length
    · have hlti : (k : Int) < (l.length : Int) := by omega
      have hwk : IntKind.i64.wrap (k : Int) = (k : Int) := by rw [IntKind.wrap_i64]; omega
      rcases hR.pts.at_ with rfl | ⟨b, off, rfl, hbw, hc⟩
      · simp at hlt
      · obtain ⟨x, hx⟩ : ∃ x, l[k] = x := ⟨_, rfl⟩
        obtain ⟨i, hi⟩ : ∃ i, off + k * 6 = i := ⟨_, rfl⟩
        have hA := hc k hlt
        have hxn := HN.out x (by rw [← hx]; exact List.getElem_mem hlt)
        rw [hx, hi] at hA
        have kcl := fun w => clone_is x.s w hxn
        have HR := Lib.hid hR
        have HPA := Lib.hid hA
        by_cases h0 : k = 0
        · have H0 : PP w b i i x x wr := ⟨hA, hA, hB⟩
          subst h0
          clear hR hB hc hx hA
          go_wp2_with fail
          refine wp_region_held_drew (S := (PP w b i i x x)) (by kernel_rfl) H0.drew (fun hHeld => ?_)
          refine wpAnyH_take (i := 0) (oi := ?oa1o) (v := ?oa1v) ?oa1h (by kernel_rfl) (by kernel_rfl) (by kernel_rfl) ?oa1q ?oa1y hHeld ?oa1r
          case oa1h => (simp only [List.getElem?_toArray, List.getElem?_cons_zero]; rfl)
          case oa1q => exact fun _ _ _ h => h
          case oa1y => (refine Or.inl ⟨by first | kernel_rfl | rfl, ?_⟩; intro w hSw; (try dsimp only at hSw); obtain ⟨⟨c0, -, -, -, -, -⟩, ⟨d0, -, -, -, -, -⟩, -⟩ := hSw; go_simp <;> (try with_reducible rfl))
          try simp only [Act.put, List.setIfInBounds_toArray, List.set_cons_zero, List.set_cons_succ]
          refine wpAnyH_take (i := 1) (oi := ?oa2o) (v := ?oa2v) ?oa2h (by kernel_rfl) (by kernel_rfl) (by kernel_rfl) ?oa2q ?oa2y hHeld ?oa2r
          case oa2h => (simp only [List.getElem?_toArray, List.getElem?_cons_succ, List.getElem?_cons_zero]; rfl)
          case oa2q => exact fun _ _ _ h => h
          case oa2y => (refine Or.inl ⟨by first | kernel_rfl | rfl, ?_⟩; intro w hSw; (try dsimp only at hSw); obtain ⟨⟨c0, -, -, -, -, -⟩, ⟨d0, -, -, -, -, -⟩, -⟩ := hSw; go_simp <;> (try with_reducible rfl))
          try simp only [Act.put, List.setIfInBounds_toArray, List.set_cons_zero, List.set_cons_succ]
          refine wpAnyH_take (i := 2) (oi := ?oa3o) (v := ?oa3v) ?oa3h (by kernel_rfl) (by kernel_rfl) (by kernel_rfl) ?oa3q ?oa3y hHeld ?oa3r
          case oa3h => (simp only [List.getElem?_toArray, List.getElem?_cons_succ, List.getElem?_cons_zero]; rfl)
          case oa3q => exact fun _ _ _ h => h
          case oa3y => (refine Or.inl ⟨by first | kernel_rfl | rfl, ?_⟩; intro w hSw; (try dsimp only at hSw); obtain ⟨⟨c0, -, -, -, -, -⟩, ⟨d0, -, -, -, -, -⟩, -⟩ := hSw; go_simp <;> (try with_reducible rfl))
          try simp only [Act.put, List.setIfInBounds_toArray, List.set_cons_zero, List.set_cons_succ]
          refine wpAnyH_take (i := 3) (oi := ?oa4o) (v := undef) ?oa4h (by kernel_rfl) (by kernel_rfl) (by kernel_rfl) ?oa4q ?oa4y hHeld ?oa4r
          case oa4h => (simp only [List.getElem?_toArray, List.getElem?_cons_succ, List.getElem?_cons_zero]; rfl)
          case oa4q => exact fun _ _ _ h => h
          case oa4y => exact Or.inr ⟨by first | kernel_rfl | rfl, rfl⟩
          try simp only [Act.put, List.setIfInBounds_toArray, List.set_cons_zero, List.set_cons_succ]
          refine wpAnyH_take (i := 4) (oi := ?oa5o) (v := undef) ?oa5h (by kernel_rfl) (by kernel_rfl) (by kernel_rfl) ?oa5q ?oa5y hHeld ?oa5r
          case oa5h => (simp only [List.getElem?_toArray, List.getElem?_cons_succ, List.getElem?_cons_zero]; rfl)
          case oa5q => exact fun _ _ _ h => h
          case oa5y => exact Or.inr ⟨by first | kernel_rfl | rfl, rfl⟩
          try simp only [Act.put, List.setIfInBounds_toArray, List.set_cons_zero, List.set_cons_succ]
          refine wpAnyH_take (i := 5) (oi := ?oa6o) (v := undef) ?oa6h (by kernel_rfl) (by kernel_rfl) (by kernel_rfl) ?oa6q ?oa6y hHeld ?oa6r
          case oa6h => (simp only [List.getElem?_toArray, List.getElem?_cons_succ, List.getElem?_cons_zero]; rfl)
          case oa6q => exact fun _ _ _ h => h
          case oa6y => exact Or.inr ⟨by first | kernel_rfl | rfl, rfl⟩
          try simp only [Act.put, List.setIfInBounds_toArray, List.set_cons_zero, List.set_cons_succ]
          refine wpAnyH_take (i := 6) (oi := ?oa7o) (v := undef) ?oa7h (by kernel_rfl) (by kernel_rfl) (by kernel_rfl) ?oa7q ?oa7y hHeld ?oa7r
          case oa7h => (simp only [List.getElem?_toArray, List.getElem?_cons_succ, List.getElem?_cons_zero]; rfl)
          case oa7q => exact fun _ _ _ h => h
          case oa7y => exact Or.inr ⟨by first | kernel_rfl | rfl, rfl⟩
          try simp only [Act.put, List.setIfInBounds_toArray, List.set_cons_zero, List.set_cons_succ]
          refine wpAnyH_take (i := 7) (oi := ?oa8o) (v := undef) ?oa8h (by kernel_rfl) (by kernel_rfl) (by kernel_rfl) ?oa8q ?oa8y hHeld ?oa8r
          case oa8h => (simp only [List.getElem?_toArray, List.getElem?_cons_succ, List.getElem?_cons_zero]; rfl)
          case oa8q => exact fun _ _ _ h => h
          case oa8y => exact Or.inr ⟨by first | kernel_rfl | rfl, rfl⟩
          try simp only [Act.put, List.setIfInBounds_toArray, List.set_cons_zero, List.set_cons_succ]
          refine wpAnyH_take (i := 8) (oi := ?oa9o) (v := undef) ?oa9h (by kernel_rfl) (by kernel_rfl) (by kernel_rfl) ?oa9q ?oa9y hHeld ?oa9r
          case oa9h => (simp only [List.getElem?_toArray, List.getElem?_cons_succ, List.getElem?_cons_zero]; rfl)
          case oa9q => exact fun _ _ _ h => h
          case oa9y => exact Or.inr ⟨by first | kernel_rfl | rfl, rfl⟩
          try simp only [Act.put, List.setIfInBounds_toArray, List.set_cons_zero, List.set_cons_succ]
          refine wpAnyH_take (i := 9) (oi := ?oa10o) (v := undef) ?oa10h (by kernel_rfl) (by kernel_rfl) (by kernel_rfl) ?oa10q ?oa10y hHeld ?oa10r
          case oa10h => (simp only [List.getElem?_toArray, List.getElem?_cons_succ, List.getElem?_cons_zero]; rfl)
          case oa10q => exact fun _ _ _ h => h
          case oa10y => exact Or.inr ⟨by first | kernel_rfl | rfl, rfl⟩
          try simp only [Act.put, List.setIfInBounds_toArray, List.set_cons_zero, List.set_cons_succ]
          refine wpAnyH_take (i := 10) (oi := ?oa11o) (v := undef) ?oa11h (by kernel_rfl) (by kernel_rfl) (by kernel_rfl) ?oa11q ?oa11y hHeld ?oa11r
          case oa11h => (simp only [List.getElem?_toArray, List.getElem?_cons_succ, List.getElem?_cons_zero]; rfl)
          case oa11q => exact fun _ _ _ h => h
          case oa11y => exact Or.inr ⟨by first | kernel_rfl | rfl, rfl⟩
          try simp only [Act.put, List.setIfInBounds_toArray, List.set_cons_zero, List.set_cons_succ]
          refine wpAnyH_take (i := 11) (oi := ?oa12o) (v := undef) ?oa12h (by kernel_rfl) (by kernel_rfl) (by kernel_rfl) ?oa12q ?oa12y hHeld ?oa12r
          case oa12h => (simp only [List.getElem?_toArray, List.getElem?_cons_succ, List.getElem?_cons_zero]; rfl)
          case oa12q => exact fun _ _ _ h => h
          case oa12y => exact Or.inr ⟨by first | kernel_rfl | rfl, rfl⟩
          try simp only [Act.put, List.setIfInBounds_toArray, List.set_cons_zero, List.set_cons_succ]
          refine wpAnyH_take (i := 12) (oi := ?oa13o) (v := undef) ?oa13h (by kernel_rfl) (by kernel_rfl) (by kernel_rfl) ?oa13q ?oa13y hHeld ?oa13r
          case oa13h => (simp only [List.getElem?_toArray, List.getElem?_cons_succ, List.getElem?_cons_zero]; rfl)
          case oa13q => exact fun _ _ _ h => h
          case oa13y => exact Or.inr ⟨by first | kernel_rfl | rfl, rfl⟩
          try simp only [Act.put, List.setIfInBounds_toArray, List.set_cons_zero, List.set_cons_succ]
          refine wpAnyH_take (i := 13) (oi := ?oa14o) (v := undef) ?oa14h (by kernel_rfl) (by kernel_rfl) (by kernel_rfl) ?oa14q ?oa14y hHeld ?oa14r
          case oa14h => (simp only [List.getElem?_toArray, List.getElem?_cons_succ, List.getElem?_cons_zero]; rfl)
          case oa14q => exact fun _ _ _ h => h
          case oa14y => exact Or.inr ⟨by first | kernel_rfl | rfl, rfl⟩
          try simp only [Act.put, List.setIfInBounds_toArray, List.set_cons_zero, List.set_cons_succ]
          refine wpAnyH_take (i := 14) (oi := ?oa15o) (v := undef) ?oa15h (by kernel_rfl) (by kernel_rfl) (by kernel_rfl) ?oa15q ?oa15y hHeld ?oa15r
          case oa15h => (simp only [List.getElem?_toArray, List.getElem?_cons_succ, List.getElem?_cons_zero]; rfl)
          case oa15q => exact fun _ _ _ h => h
          case oa15y => exact Or.inr ⟨by first | kernel_rfl | rfl, rfl⟩
          try simp only [Act.put, List.setIfInBounds_toArray, List.set_cons_zero, List.set_cons_succ]
          refine wpAnyH_take (i := 15) (oi := ?oa16o) (v := ?oa16v) ?oa16h (by kernel_rfl) (by kernel_rfl) (by kernel_rfl) ?oa16q ?oa16y hHeld ?oa16r
          case oa16h => (simp only [List.getElem?_toArray, List.getElem?_cons_succ, List.getElem?_cons_zero]; rfl)
          case oa16q => exact fun _ _ _ h => h
          case oa16y => (refine Or.inl ⟨by first | kernel_rfl | rfl, ?_⟩; intro w hSw; (try dsimp only at hSw); obtain ⟨⟨c0, -, -, -, -, -⟩, ⟨d0, -, -, -, -, -⟩, -⟩ := hSw; go_simp <;> (try with_reducible rfl))
          try simp only [Act.put, List.setIfInBounds_toArray, List.set_cons_zero, List.set_cons_succ]
          refine wpAnyH_done (by kernel_rfl) ?_ _
          have hbel := hHeld.bel
          have hat9 := hHeld.x
          obtain ⟨v0, -, -, -, -, -⟩ := hat9
          have hrow := HR.out.later ((Below.refl _ _).drew)
          have hat := hHeld.x
          go_wp2_with
            (go_at_call 63; (with_reducible refine (kcl _).mono ?_); rintro e w2 ⟨rfl, hb2⟩; (have HB2 := Lib.hid (bel_next hbel hb2)); (have HR2 := Lib.hid (hrow.later hb2)); (have HA2 := Lib.hid (hat.below hb2 hat.room)); (have hat2 := HA2.out); (obtain ⟨y0, -, -, -, -, -⟩ := hat2); (have hsoft := HR2.out.soft i); clear hb2 hrow hat hbel)
          go_roundw
          case rel =>
            refine ⟨1, by omega, by go_num, ?_, ?_⟩
            · rw [setCell_noop HA2.out.c0]; exact HR2.out
            · rw [setCell_noop HA2.out.c0]; exact HB2.out
          case measure => simp [intOf]; omega
        · have hki : (0 : Int) < (k : Int) := by omega
          have hkn : 0 < k := by omega
          have hkd : decide (0 < k) = true := decide_eq_true hkn
          obtain ⟨m, hm⟩ : ∃ m, k = m + 1 := ⟨k - 1, by omega⟩
          have hmi : (k : Int) - 1 = (m : Int) := by omega
          have hml : (m : Int) < (l.length : Int) := by omega
          have hwm : IntKind.i64.wrap (m : Int) = (m : Int) := by rw [IntKind.wrap_i64]; omega
          obtain ⟨y, hy⟩ : ∃ y, l[m] = y := ⟨_, rfl⟩
          obtain ⟨j, hj⟩ : ∃ j, off + m * 6 = j := ⟨_, rfl⟩
          have hC := hc m (by omega)
          rw [hy, hj] at hC
          have H0 : PP w b i j x y wr := ⟨hA, hC, hB⟩
          clear hR hB hc hx h0 hA hC hy hm
          by_cases heq : x.s = y.s
          · have hq := seq_eq heq
            have HEQ := Lib.hid heq
            clear heq
            go_wp2_with fail
            refine wp_region_held_drew (S := (PP w b i j x y)) (by kernel_rfl) H0.drew (fun hHeld => ?_)
            refine wpAnyH_take (i := 0) (oi := ?ob1o) (v := ?ob1v) ?ob1h (by kernel_rfl) (by kernel_rfl) (by kernel_rfl) ?ob1q ?ob1y hHeld ?ob1r
            case ob1h => (simp only [List.getElem?_toArray, List.getElem?_cons_zero]; rfl)
            case ob1q => exact fun _ _ _ h => h
            case ob1y => (refine Or.inl ⟨by first | kernel_rfl | rfl, ?_⟩; intro w hSw; (try dsimp only at hSw); obtain ⟨⟨c0, -, -, -, -, -⟩, ⟨d0, -, -, -, -, -⟩, -⟩ := hSw; go_simp <;> (try with_reducible rfl))
            try simp only [Act.put, List.setIfInBounds_toArray, List.set_cons_zero, List.set_cons_succ]
            refine wpAnyH_take (i := 1) (oi := ?ob2o) (v := ?ob2v) ?ob2h (by kernel_rfl) (by kernel_rfl) (by kernel_rfl) ?ob2q ?ob2y hHeld ?ob2r
            case ob2h => (simp only [List.getElem?_toArray, List.getElem?_cons_succ, List.getElem?_cons_zero]; rfl)
            case ob2q => exact fun _ _ _ h => h
            case ob2y => (refine Or.inl ⟨by first | kernel_rfl | rfl, ?_⟩; intro w hSw; (try dsimp only at hSw); obtain ⟨⟨c0, -, -, -, -, -⟩, ⟨d0, -, -, -, -, -⟩, -⟩ := hSw; go_simp <;> (try with_reducible rfl))
            try simp only [Act.put, List.setIfInBounds_toArray, List.set_cons_zero, List.set_cons_succ]
            refine wpAnyH_take (i := 2) (oi := ?ob3o) (v := ?ob3v) ?ob3h (by kernel_rfl) (by kernel_rfl) (by kernel_rfl) ?ob3q ?ob3y hHeld ?ob3r
            case ob3h => (simp only [List.getElem?_toArray, List.getElem?_cons_succ, List.getElem?_cons_zero]; rfl)
            case ob3q => exact fun _ _ _ h => h
            case ob3y => (refine Or.inl ⟨by first | kernel_rfl | rfl, ?_⟩; intro w hSw; (try dsimp only at hSw); obtain ⟨⟨c0, -, -, -, -, -⟩, ⟨d0, -, -, -, -, -⟩, -⟩ := hSw; go_simp <;> (try with_reducible rfl))
            try simp only [Act.put, List.setIfInBounds_toArray, List.set_cons_zero, List.set_cons_succ]
            refine wpAnyH_take (i := 3) (oi := ?ob4o) (v := ?ob4v) ?ob4h (by kernel_rfl) (by kernel_rfl) (by kernel_rfl) ?ob4q ?ob4y hHeld ?ob4r
            case ob4h => (simp only [List.getElem?_toArray, List.getElem?_cons_succ, List.getElem?_cons_zero]; rfl)
            case ob4q => exact fun _ _ _ h => h
            case ob4y => (refine Or.inl ⟨by first | kernel_rfl | rfl, ?_⟩; intro w hSw; (try dsimp only at hSw); obtain ⟨⟨c0, -, -, -, -, -⟩, ⟨d0, -, -, -, -, -⟩, -⟩ := hSw; go_simp <;> (try with_reducible rfl))
            try simp only [Act.put, List.setIfInBounds_toArray, List.set_cons_zero, List.set_cons_succ]
            refine wpAnyH_take (i := 4) (oi := ?ob5o) (v := ?ob5v) ?ob5h (by kernel_rfl) (by kernel_rfl) (by kernel_rfl) ?ob5q ?ob5y hHeld ?ob5r
            case ob5h => (simp only [List.getElem?_toArray, List.getElem?_cons_succ, List.getElem?_cons_zero]; rfl)
            case ob5q => exact fun _ _ _ h => h
            case ob5y => (refine Or.inl ⟨by first | kernel_rfl | rfl, ?_⟩; intro w hSw; (try dsimp only at hSw); obtain ⟨⟨c0, -, -, -, -, -⟩, ⟨d0, -, -, -, -, -⟩, -⟩ := hSw; go_simp <;> (try with_reducible rfl))
            try simp only [Act.put, List.setIfInBounds_toArray, List.set_cons_zero, List.set_cons_succ]
            refine wpAnyH_take (i := 5) (oi := ?ob6o) (v := ?ob6v) ?ob6h (by kernel_rfl) (by kernel_rfl) (by kernel_rfl) ?ob6q ?ob6y hHeld ?ob6r
            case ob6h => (simp only [List.getElem?_toArray, List.getElem?_cons_succ, List.getElem?_cons_zero]; rfl)
            case ob6q => exact fun _ _ _ h => h
            case ob6y => (refine Or.inl ⟨by first | kernel_rfl | rfl, ?_⟩; intro w hSw; (try dsimp only at hSw); obtain ⟨⟨c0, -, -, -, -, -⟩, ⟨d0, -, -, -, -, -⟩, -⟩ := hSw; go_simp <;> (try with_reducible rfl))
            try simp only [Act.put, List.setIfInBounds_toArray, List.set_cons_zero, List.set_cons_succ]
            refine wpAnyH_take (i := 6) (oi := ?ob7o) (v := ?ob7v) ?ob7h (by kernel_rfl) (by kernel_rfl) (by kernel_rfl) ?ob7q ?ob7y hHeld ?ob7r
            case ob7h => (simp only [List.getElem?_toArray, List.getElem?_cons_succ, List.getElem?_cons_zero]; rfl)
            case ob7q => exact fun _ _ _ h => h
            case ob7y => (refine Or.inl ⟨by first | kernel_rfl | rfl, ?_⟩; intro w hSw; (try dsimp only at hSw); obtain ⟨⟨c0, -, -, -, -, -⟩, ⟨d0, -, -, -, -, -⟩, -⟩ := hSw; go_simp <;> (try with_reducible rfl))
            try simp only [Act.put, List.setIfInBounds_toArray, List.set_cons_zero, List.set_cons_succ]
            refine wpAnyH_take (i := 7) (oi := ?ob8o) (v := ?ob8v) ?ob8h (by kernel_rfl) (by kernel_rfl) (by kernel_rfl) ?ob8q ?ob8y hHeld ?ob8r
            case ob8h => (simp only [List.getElem?_toArray, List.getElem?_cons_succ, List.getElem?_cons_zero]; rfl)
            case ob8q => exact fun _ _ _ h => h
            case ob8y => (refine Or.inl ⟨by first | kernel_rfl | rfl, ?_⟩; intro w hSw; (try dsimp only at hSw); obtain ⟨⟨c0, -, -, -, -, -⟩, ⟨d0, -, -, -, -, -⟩, -⟩ := hSw; go_simp <;> (try with_reducible rfl))
            try simp only [Act.put, List.setIfInBounds_toArray, List.set_cons_zero, List.set_cons_succ]
            refine wpAnyH_take (i := 8) (oi := ?ob9o) (v := ?ob9v) ?ob9h (by kernel_rfl) (by kernel_rfl) (by kernel_rfl) ?ob9q ?ob9y hHeld ?ob9r
            case ob9h => (simp only [List.getElem?_toArray, List.getElem?_cons_succ, List.getElem?_cons_zero]; rfl)
            case ob9q => exact fun _ _ _ h => h
            case ob9y => (refine Or.inl ⟨by first | kernel_rfl | rfl, ?_⟩; intro w hSw; (try dsimp only at hSw); obtain ⟨⟨c0, -, -, -, -, -⟩, ⟨d0, -, -, -, -, -⟩, -⟩ := hSw; go_simp <;> (try with_reducible rfl))
            try simp only [Act.put, List.setIfInBounds_toArray, List.set_cons_zero, List.set_cons_succ]
            refine wpAnyH_take (i := 9) (oi := ?ob10o) (v := ?ob10v) ?ob10h (by kernel_rfl) (by kernel_rfl) (by kernel_rfl) ?ob10q ?ob10y hHeld ?ob10r
            case ob10h => (simp only [List.getElem?_toArray, List.getElem?_cons_succ, List.getElem?_cons_zero]; rfl)
            case ob10q => exact fun _ _ _ h => h
            case ob10y => (refine Or.inl ⟨by first | kernel_rfl | rfl, ?_⟩; intro w hSw; (try dsimp only at hSw); obtain ⟨⟨c0, -, -, -, -, -⟩, ⟨d0, -, -, -, -, -⟩, -⟩ := hSw; go_simp <;> (try with_reducible rfl))
            try simp only [Act.put, List.setIfInBounds_toArray, List.set_cons_zero, List.set_cons_succ]
            refine wpAnyH_take (i := 10) (oi := ?ob11o) (v := ?ob11v) ?ob11h (by kernel_rfl) (by kernel_rfl) (by kernel_rfl) ?ob11q ?ob11y hHeld ?ob11r
            case ob11h => (simp only [List.getElem?_toArray, List.getElem?_cons_succ, List.getElem?_cons_zero]; rfl)
            case ob11q => exact fun _ _ _ h => h
            case ob11y => (refine Or.inl ⟨by first | kernel_rfl | rfl, ?_⟩; intro w hSw; (try dsimp only at hSw); obtain ⟨⟨c0, -, -, -, -, -⟩, ⟨d0, -, -, -, -, -⟩, -⟩ := hSw; go_simp <;> (try with_reducible rfl))
            try simp only [Act.put, List.setIfInBounds_toArray, List.set_cons_zero, List.set_cons_succ]
            refine wpAnyH_take (i := 11) (oi := ?ob12o) (v := ?ob12v) ?ob12h (by kernel_rfl) (by kernel_rfl) (by kernel_rfl) ?ob12q ?ob12y hHeld ?ob12r
            case ob12h => (simp only [List.getElem?_toArray, List.getElem?_cons_succ, List.getElem?_cons_zero]; rfl)
            case ob12q => exact fun _ _ _ h => h
            case ob12y => (refine Or.inl ⟨by first | kernel_rfl | rfl, ?_⟩; intro w hSw; (try dsimp only at hSw); obtain ⟨⟨c0, -, -, -, -, -⟩, ⟨d0, -, -, -, -, -⟩, -⟩ := hSw; go_simp <;> (try with_reducible rfl))
            try simp only [Act.put, List.setIfInBounds_toArray, List.set_cons_zero, List.set_cons_succ]
            refine wpAnyH_take (i := 12) (oi := ?ob13o) (v := ?ob13v) ?ob13h (by kernel_rfl) (by kernel_rfl) (by kernel_rfl) ?ob13q ?ob13y hHeld ?ob13r
            case ob13h => (simp only [List.getElem?_toArray, List.getElem?_cons_succ, List.getElem?_cons_zero]; rfl)
            case ob13q => exact fun _ _ _ h => h
            case ob13y => (refine Or.inl ⟨by first | kernel_rfl | rfl, ?_⟩; intro w hSw; (try dsimp only at hSw); obtain ⟨⟨c0, -, -, -, -, -⟩, ⟨d0, -, -, -, -, -⟩, -⟩ := hSw; go_simp <;> (try with_reducible rfl))
            try simp only [Act.put, List.setIfInBounds_toArray, List.set_cons_zero, List.set_cons_succ]
            refine wpAnyH_take (i := 13) (oi := ?ob14o) (v := ?ob14v) ?ob14h (by kernel_rfl) (by kernel_rfl) (by kernel_rfl) ?ob14q ?ob14y hHeld ?ob14r
            case ob14h => (simp only [List.getElem?_toArray, List.getElem?_cons_succ, List.getElem?_cons_zero]; rfl)
            case ob14q => exact fun _ _ _ h => h
            case ob14y => (refine Or.inl ⟨by first | kernel_rfl | rfl, ?_⟩; intro w hSw; (try dsimp only at hSw); obtain ⟨⟨c0, -, -, -, -, -⟩, ⟨d0, -, -, -, -, -⟩, -⟩ := hSw; go_simp <;> (try with_reducible rfl))
            try simp only [Act.put, List.setIfInBounds_toArray, List.set_cons_zero, List.set_cons_succ]
            refine wpAnyH_take (i := 14) (oi := ?ob15o) (v := ?ob15v) ?ob15h (by kernel_rfl) (by kernel_rfl) (by kernel_rfl) ?ob15q ?ob15y hHeld ?ob15r
            case ob15h => (simp only [List.getElem?_toArray, List.getElem?_cons_succ, List.getElem?_cons_zero]; rfl)
            case ob15q => exact fun _ _ _ h => h
            case ob15y => (refine Or.inl ⟨by first | kernel_rfl | rfl, ?_⟩; intro w hSw; (try dsimp only at hSw); obtain ⟨⟨c0, -, -, -, -, -⟩, ⟨d0, -, -, -, -, -⟩, -⟩ := hSw; go_simp <;> (try with_reducible rfl))
            try simp only [Act.put, List.setIfInBounds_toArray, List.set_cons_zero, List.set_cons_succ]
            refine wpAnyH_take (i := 15) (oi := ?ob16o) (v := ?ob16v) ?ob16h (by kernel_rfl) (by kernel_rfl) (by kernel_rfl) ?ob16q ?ob16y hHeld ?ob16r
            case ob16h => (simp only [List.getElem?_toArray, List.getElem?_cons_succ, List.getElem?_cons_zero]; rfl)
            case ob16q => exact fun _ _ _ h => h
            case ob16y => (refine Or.inl ⟨by first | kernel_rfl | rfl, ?_⟩; intro w hSw; (try dsimp only at hSw); obtain ⟨⟨c0, -, -, -, -, -⟩, ⟨d0, -, -, -, -, -⟩, -⟩ := hSw; go_simp <;> (try with_reducible rfl))
            try simp only [Act.put, List.setIfInBounds_toArray, List.set_cons_zero, List.set_cons_succ]
            refine wpAnyH_done (by kernel_rfl) ?_ _
            have hbel := hHeld.bel
            have hrow := HR.out.later ((Below.refl _ _).drew)
            have hat := hHeld.x
            have hat2 := hHeld.y
            have HA2 := Lib.hid hat
            have HRo := Lib.hid hrow
            have HBo := Lib.hid hbel
            obtain ⟨y0, -, -, -, -, -⟩ := hat2
            (have hat3 := HA2.out)
            obtain ⟨x0, -, -, -, -, -⟩ := hat3
            have hsoft := HR.out.soft i
            have HNP := Lib.hid (setCell_noop (w := wr) (b := b) (o := i) (v := .string y.s) (by rw [← HEQ.out]; exact HPA.out.c0))
            clear hrow hbel hat hHeld
            go_wp2
            go_roundw
            case rel =>
              refine ⟨k + 1, by omega, by go_num, ?_, ?_⟩
              · rw [HNP.out]; exact HRo.out
              · rw [HNP.out]; exact HBo.out
            case measure => simp [intOf]; omega
          · have hq := seq_ne heq
            clear heq
            go_wp2_with fail
            refine wp_region_held_drew (S := (PP w b i j x y)) (by kernel_rfl) H0.drew (fun hHeld => ?_)
            refine wpAnyH_take (i := 0) (oi := ?oc1o) (v := ?oc1v) ?oc1h (by kernel_rfl) (by kernel_rfl) (by kernel_rfl) ?oc1q ?oc1y hHeld ?oc1r
            case oc1h => (simp only [List.getElem?_toArray, List.getElem?_cons_zero]; rfl)
            case oc1q => exact fun _ _ _ h => h
            case oc1y => (refine Or.inl ⟨by first | kernel_rfl | rfl, ?_⟩; intro w hSw; (try dsimp only at hSw); obtain ⟨⟨c0, -, -, -, -, -⟩, ⟨d0, -, -, -, -, -⟩, -⟩ := hSw; go_simp <;> (try with_reducible rfl))
            try simp only [Act.put, List.setIfInBounds_toArray, List.set_cons_zero, List.set_cons_succ]
            refine wpAnyH_take (i := 1) (oi := ?oc2o) (v := ?oc2v) ?oc2h (by kernel_rfl) (by kernel_rfl) (by kernel_rfl) ?oc2q ?oc2y hHeld ?oc2r
            case oc2h => (simp only [List.getElem?_toArray, List.getElem?_cons_succ, List.getElem?_cons_zero]; rfl)
            case oc2q => exact fun _ _ _ h => h
            case oc2y => (refine Or.inl ⟨by first | kernel_rfl | rfl, ?_⟩; intro w hSw; (try dsimp only at hSw); obtain ⟨⟨c0, -, -, -, -, -⟩, ⟨d0, -, -, -, -, -⟩, -⟩ := hSw; go_simp <;> (try with_reducible rfl))
            try simp only [Act.put, List.setIfInBounds_toArray, List.set_cons_zero, List.set_cons_succ]
            refine wpAnyH_take (i := 2) (oi := ?oc3o) (v := ?oc3v) ?oc3h (by kernel_rfl) (by kernel_rfl) (by kernel_rfl) ?oc3q ?oc3y hHeld ?oc3r
            case oc3h => (simp only [List.getElem?_toArray, List.getElem?_cons_succ, List.getElem?_cons_zero]; rfl)
            case oc3q => exact fun _ _ _ h => h
            case oc3y => (refine Or.inl ⟨by first | kernel_rfl | rfl, ?_⟩; intro w hSw; (try dsimp only at hSw); obtain ⟨⟨c0, -, -, -, -, -⟩, ⟨d0, -, -, -, -, -⟩, -⟩ := hSw; go_simp <;> (try with_reducible rfl))
            try simp only [Act.put, List.setIfInBounds_toArray, List.set_cons_zero, List.set_cons_succ]
            refine wpAnyH_take (i := 3) (oi := ?oc4o) (v := ?oc4v) ?oc4h (by kernel_rfl) (by kernel_rfl) (by kernel_rfl) ?oc4q ?oc4y hHeld ?oc4r
            case oc4h => (simp only [List.getElem?_toArray, List.getElem?_cons_succ, List.getElem?_cons_zero]; rfl)
            case oc4q => exact fun _ _ _ h => h
            case oc4y => (refine Or.inl ⟨by first | kernel_rfl | rfl, ?_⟩; intro w hSw; (try dsimp only at hSw); obtain ⟨⟨c0, -, -, -, -, -⟩, ⟨d0, -, -, -, -, -⟩, -⟩ := hSw; go_simp <;> (try with_reducible rfl))
            try simp only [Act.put, List.setIfInBounds_toArray, List.set_cons_zero, List.set_cons_succ]
            refine wpAnyH_take (i := 4) (oi := ?oc5o) (v := ?oc5v) ?oc5h (by kernel_rfl) (by kernel_rfl) (by kernel_rfl) ?oc5q ?oc5y hHeld ?oc5r
            case oc5h => (simp only [List.getElem?_toArray, List.getElem?_cons_succ, List.getElem?_cons_zero]; rfl)
            case oc5q => exact fun _ _ _ h => h
            case oc5y => (refine Or.inl ⟨by first | kernel_rfl | rfl, ?_⟩; intro w hSw; (try dsimp only at hSw); obtain ⟨⟨c0, -, -, -, -, -⟩, ⟨d0, -, -, -, -, -⟩, -⟩ := hSw; go_simp <;> (try with_reducible rfl))
            try simp only [Act.put, List.setIfInBounds_toArray, List.set_cons_zero, List.set_cons_succ]
            refine wpAnyH_take (i := 5) (oi := ?oc6o) (v := ?oc6v) ?oc6h (by kernel_rfl) (by kernel_rfl) (by kernel_rfl) ?oc6q ?oc6y hHeld ?oc6r
            case oc6h => (simp only [List.getElem?_toArray, List.getElem?_cons_succ, List.getElem?_cons_zero]; rfl)
            case oc6q => exact fun _ _ _ h => h
            case oc6y => (refine Or.inl ⟨by first | kernel_rfl | rfl, ?_⟩; intro w hSw; (try dsimp only at hSw); obtain ⟨⟨c0, -, -, -, -, -⟩, ⟨d0, -, -, -, -, -⟩, -⟩ := hSw; go_simp <;> (try with_reducible rfl))
            try simp only [Act.put, List.setIfInBounds_toArray, List.set_cons_zero, List.set_cons_succ]
            refine wpAnyH_take (i := 6) (oi := ?oc7o) (v := ?oc7v) ?oc7h (by kernel_rfl) (by kernel_rfl) (by kernel_rfl) ?oc7q ?oc7y hHeld ?oc7r
            case oc7h => (simp only [List.getElem?_toArray, List.getElem?_cons_succ, List.getElem?_cons_zero]; rfl)
            case oc7q => exact fun _ _ _ h => h
            case oc7y => (refine Or.inl ⟨by first | kernel_rfl | rfl, ?_⟩; intro w hSw; (try dsimp only at hSw); obtain ⟨⟨c0, -, -, -, -, -⟩, ⟨d0, -, -, -, -, -⟩, -⟩ := hSw; go_simp <;> (try with_reducible rfl))
            try simp only [Act.put, List.setIfInBounds_toArray, List.set_cons_zero, List.set_cons_succ]
            refine wpAnyH_take (i := 7) (oi := ?oc8o) (v := ?oc8v) ?oc8h (by kernel_rfl) (by kernel_rfl) (by kernel_rfl) ?oc8q ?oc8y hHeld ?oc8r
            case oc8h => (simp only [List.getElem?_toArray, List.getElem?_cons_succ, List.getElem?_cons_zero]; rfl)
            case oc8q => exact fun _ _ _ h => h
            case oc8y => (refine Or.inl ⟨by first | kernel_rfl | rfl, ?_⟩; intro w hSw; (try dsimp only at hSw); obtain ⟨⟨c0, -, -, -, -, -⟩, ⟨d0, -, -, -, -, -⟩, -⟩ := hSw; go_simp <;> (try with_reducible rfl))
            try simp only [Act.put, List.setIfInBounds_toArray, List.set_cons_zero, List.set_cons_succ]
            refine wpAnyH_take (i := 8) (oi := ?oc9o) (v := ?oc9v) ?oc9h (by kernel_rfl) (by kernel_rfl) (by kernel_rfl) ?oc9q ?oc9y hHeld ?oc9r
            case oc9h => (simp only [List.getElem?_toArray, List.getElem?_cons_succ, List.getElem?_cons_zero]; rfl)
            case oc9q => exact fun _ _ _ h => h
            case oc9y => (refine Or.inl ⟨by first | kernel_rfl | rfl, ?_⟩; intro w hSw; (try dsimp only at hSw); obtain ⟨⟨c0, -, -, -, -, -⟩, ⟨d0, -, -, -, -, -⟩, -⟩ := hSw; go_simp <;> (try with_reducible rfl))
            try simp only [Act.put, List.setIfInBounds_toArray, List.set_cons_zero, List.set_cons_succ]
            refine wpAnyH_take (i := 9) (oi := ?oc10o) (v := ?oc10v) ?oc10h (by kernel_rfl) (by kernel_rfl) (by kernel_rfl) ?oc10q ?oc10y hHeld ?oc10r
            case oc10h => (simp only [List.getElem?_toArray, List.getElem?_cons_succ, List.getElem?_cons_zero]; rfl)
            case oc10q => exact fun _ _ _ h => h
            case oc10y => (refine Or.inl ⟨by first | kernel_rfl | rfl, ?_⟩; intro w hSw; (try dsimp only at hSw); obtain ⟨⟨c0, -, -, -, -, -⟩, ⟨d0, -, -, -, -, -⟩, -⟩ := hSw; go_simp <;> (try with_reducible rfl))
            try simp only [Act.put, List.setIfInBounds_toArray, List.set_cons_zero, List.set_cons_succ]
            refine wpAnyH_take (i := 10) (oi := ?oc11o) (v := ?oc11v) ?oc11h (by kernel_rfl) (by kernel_rfl) (by kernel_rfl) ?oc11q ?oc11y hHeld ?oc11r
            case oc11h => (simp only [List.getElem?_toArray, List.getElem?_cons_succ, List.getElem?_cons_zero]; rfl)
            case oc11q => exact fun _ _ _ h => h
            case oc11y => (refine Or.inl ⟨by first | kernel_rfl | rfl, ?_⟩; intro w hSw; (try dsimp only at hSw); obtain ⟨⟨c0, -, -, -, -, -⟩, ⟨d0, -, -, -, -, -⟩, -⟩ := hSw; go_simp <;> (try with_reducible rfl))
            try simp only [Act.put, List.setIfInBounds_toArray, List.set_cons_zero, List.set_cons_succ]
            refine wpAnyH_take (i := 11) (oi := ?oc12o) (v := ?oc12v) ?oc12h (by kernel_rfl) (by kernel_rfl) (by kernel_rfl) ?oc12q ?oc12y hHeld ?oc12r
            case oc12h => (simp only [List.getElem?_toArray, List.getElem?_cons_succ, List.getElem?_cons_zero]; rfl)
            case oc12q => exact fun _ _ _ h => h
            case oc12y => (refine Or.inl ⟨by first | kernel_rfl | rfl, ?_⟩; intro w hSw; (try dsimp only at hSw); obtain ⟨⟨c0, -, -, -, -, -⟩, ⟨d0, -, -, -, -, -⟩, -⟩ := hSw; go_simp <;> (try with_reducible rfl))
            try simp only [Act.put, List.setIfInBounds_toArray, List.set_cons_zero, List.set_cons_succ]
            refine wpAnyH_take (i := 12) (oi := ?oc13o) (v := ?oc13v) ?oc13h (by kernel_rfl) (by kernel_rfl) (by kernel_rfl) ?oc13q ?oc13y hHeld ?oc13r
            case oc13h => (simp only [List.getElem?_toArray, List.getElem?_cons_succ, List.getElem?_cons_zero]; rfl)
            case oc13q => exact fun _ _ _ h => h
            case oc13y => (refine Or.inl ⟨by first | kernel_rfl | rfl, ?_⟩; intro w hSw; (try dsimp only at hSw); obtain ⟨⟨c0, -, -, -, -, -⟩, ⟨d0, -, -, -, -, -⟩, -⟩ := hSw; go_simp <;> (try with_reducible rfl))
            try simp only [Act.put, List.setIfInBounds_toArray, List.set_cons_zero, List.set_cons_succ]
            refine wpAnyH_take (i := 13) (oi := ?oc14o) (v := ?oc14v) ?oc14h (by kernel_rfl) (by kernel_rfl) (by kernel_rfl) ?oc14q ?oc14y hHeld ?oc14r
            case oc14h => (simp only [List.getElem?_toArray, List.getElem?_cons_succ, List.getElem?_cons_zero]; rfl)
            case oc14q => exact fun _ _ _ h => h
            case oc14y => (refine Or.inl ⟨by first | kernel_rfl | rfl, ?_⟩; intro w hSw; (try dsimp only at hSw); obtain ⟨⟨c0, -, -, -, -, -⟩, ⟨d0, -, -, -, -, -⟩, -⟩ := hSw; go_simp <;> (try with_reducible rfl))
            try simp only [Act.put, List.setIfInBounds_toArray, List.set_cons_zero, List.set_cons_succ]
            refine wpAnyH_take (i := 14) (oi := ?oc15o) (v := ?oc15v) ?oc15h (by kernel_rfl) (by kernel_rfl) (by kernel_rfl) ?oc15q ?oc15y hHeld ?oc15r
            case oc15h => (simp only [List.getElem?_toArray, List.getElem?_cons_succ, List.getElem?_cons_zero]; rfl)
            case oc15q => exact fun _ _ _ h => h
            case oc15y => (refine Or.inl ⟨by first | kernel_rfl | rfl, ?_⟩; intro w hSw; (try dsimp only at hSw); obtain ⟨⟨c0, -, -, -, -, -⟩, ⟨d0, -, -, -, -, -⟩, -⟩ := hSw; go_simp <;> (try with_reducible rfl))
            try simp only [Act.put, List.setIfInBounds_toArray, List.set_cons_zero, List.set_cons_succ]
            refine wpAnyH_take (i := 15) (oi := ?oc16o) (v := ?oc16v) ?oc16h (by kernel_rfl) (by kernel_rfl) (by kernel_rfl) ?oc16q ?oc16y hHeld ?oc16r
            case oc16h => (simp only [List.getElem?_toArray, List.getElem?_cons_succ, List.getElem?_cons_zero]; rfl)
            case oc16q => exact fun _ _ _ h => h
            case oc16y => (refine Or.inl ⟨by first | kernel_rfl | rfl, ?_⟩; intro w hSw; (try dsimp only at hSw); obtain ⟨⟨c0, -, -, -, -, -⟩, ⟨d0, -, -, -, -, -⟩, -⟩ := hSw; go_simp <;> (try with_reducible rfl))
            try simp only [Act.put, List.setIfInBounds_toArray, List.set_cons_zero, List.set_cons_succ]
            refine wpAnyH_done (by kernel_rfl) ?_ _
            have hbel := hHeld.bel
            have hat9 := hHeld.x
            obtain ⟨v0, -, -, -, -, -⟩ := hat9
            have hrow := HR.out.later ((Below.refl _ _).drew)
            have hat := hHeld.x
            go_wp2_with
              (go_at_call 63; (with_reducible refine (kcl _).mono ?_); rintro e w2 ⟨rfl, hb2⟩; (have HB2 := Lib.hid (bel_next hbel hb2)); (have HR2 := Lib.hid (hrow.later hb2)); (have HA2 := Lib.hid (hat.below hb2 hat.room)); (have hat2 := HA2.out); (obtain ⟨y0, -, -, -, -, -⟩ := hat2); (have hsoft := HR2.out.soft i); clear hb2 hrow hat hbel)
            go_roundw
            case rel =>
              refine ⟨k + 1, by omega, by go_num, ?_, ?_⟩
              · rw [setCell_noop HA2.out.c0]; exact HR2.out
              · rw [setCell_noop HA2.out.c0]; exact HB2.out
            case measure => simp [intOf]; omega
    · have hlti : ¬ (k : Int) < (l.length : Int) := by omega
      have HR := Lib.hid hR
      have HB := Lib.hid hB
      clear hR hB
      go_wp2
      go_ret
      exact ⟨_, rfl, HR.out, HB.out⟩
end Go.Proofs.Ytcjcbbpolhpphaa
