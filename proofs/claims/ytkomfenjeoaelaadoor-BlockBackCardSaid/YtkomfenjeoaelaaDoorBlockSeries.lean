/- The contracts of From, and of Series: the program's and the document's. -/
import Derived.Test.YtkomfenjeoaelaaDoorBlockFrom
set_option maxRecDepth 20000
set_option linter.unusedSimpArgs false
namespace Go.Proofs.YtkomfenjeoaelaaDoor
open Go.RowKit Go.Proofs.YtkomfenjeoaelaaDoor.Vi Go.Proofs.YtkomfenjeoaelaaDoor.Mk

set_option maxHeartbeats 4000000 in
theorem from6_is (a0 : Option Addr) (c0 : Nat) (l : List Pt) (tm : Int) (w : World) (hS : Lst w w.heap.size a0 c0 l) (hl : l.length ≤ 900000) (hn : ∀ p ∈ l, p.s.size ≤ 100000) :
    Calls Tryd.prog 22 #[.slice a0 l.length c0, .int .i64 tm] w (LDone (frmL l tm) w) := by
  have hal := (Below.refl w.heap.size w).alloc (Nat.le_refl _) (.cells #[.int .i64 tm] 3)
  have hT0 : (w.alloc (.cells #[.int .i64 tm] 3)).cell? ⟨w.heap.size, 0, none⟩ = some (.int .i64 tm) := by simp [go_sem]
  have ko := own_is a0 c0 l (w.alloc (.cells #[.int .i64 tm] 3)) (hS.later hal) hl hn
  have HAL := Lib.hid hal
  have HT0 := Lib.hid hT0
  clear hS hn hT0 hal
  go_enter Tryd.func22, Tryd.ntmps22
  go_wp2_with (first
    | (go_at_call 33; (with_reducible refine ko.mono ?_); rintro e w1 ⟨v, rfl, hR1, hb1⟩; (have hsl := hR1.slice); (obtain ⟨a1, c1, rfl⟩ := hsl); (have hT1 := (hb1.cell (p := ⟨w.heap.size, 0, none⟩) (by simp)).trans HT0.out); (have kd := delete6_is (w.alloc (.cells #[.int .i64 tm] 3)).heap.size a1 c1 l.length l w.heap.size tm w1 rfl hR1 hl hT1 (by simp) hb1.size); (have HB1 := Lib.hid hb1); clear hR1 hb1 hT1)
    | (go_at_call 42; (with_reducible refine kd.mono ?_); rintro e w2 ⟨a2, c2, rfl, hR2, hb2⟩))
  go_ret
  exact ⟨a2, c2, rfl, hR2, HAL.out.trans ((HB1.out.trans hb2).mono (by simp))⟩

/-- A slice of texts that the call has made above B. -/
def NRow (w : World) (B : Nat) (v : Value) (xs : List ByteArray) : Prop := w.ownsRow B 9 1 v xs.length (xs.map Value.string)
theorem NRow.slice {w : World} {B : Nat} {v : Value} {xs : List ByteArray} (h : NRow w B v xs) : ∃ a c, v = .slice a xs.length c := by
  rcases h.2 with ⟨h, h0⟩ | ⟨g, cap, cur, h, _⟩
  · exact ⟨_, _, by rw [h, h0]⟩
  · exact ⟨_, _, h⟩
theorem NRow.nil (w : World) (B : Nat) : NRow w B (.slice none 0 0) [] := World.ownsRow_nil _ _ _ _
theorem NRow.later {w w' : World} {B : Nat} {v : Value} {xs : List ByteArray} (h : NRow w B v xs) (k : Below w.heap.size w w') : NRow w' B v xs := by
  obtain ⟨h1, h2⟩ := h
  refine ⟨h1, ?_⟩
  rcases h2 with h2 | ⟨g, cap, cur, e1, e2, e3, rest⟩
  · exact Or.inl h2
  · have hg : g < w.heap.size := (Array.getElem?_eq_some_iff.1 e3).1
    exact Or.inr ⟨g, cap, cur, e1, e2, (k.block g hg).trans e3, rest⟩
theorem NRow.at_ {w : World} {B : Nat} {a : Option Addr} {n c : Nat} {xs : List ByteArray} (h : NRow w B (.slice a n c) xs) (hx : 0 < xs.length) : ∃ g, a = some ⟨g, 0, none⟩ ∧ g < w.heap.size ∧ ∀ j (hj : j < xs.length), w.cell? ⟨g, j, none⟩ = some (.string xs[j]) := by
  rcases h.2 with ⟨_, h0⟩ | ⟨g, cap, cur, e, _, hb, _⟩
  · omega
  · injection e with e1 e2 e3
    subst e1 e2 e3
    refine ⟨g, rfl, (Array.getElem?_eq_some_iff.1 hb).1, fun j hj => ?_⟩
    have := World.ownsRow.cellAt (show w.ownsRow B 9 1 _ xs.length (xs.map Value.string) from h) j (by omega)
    rw [this, List.getElem?_map, List.getElem?_eq_getElem hj]; rfl
theorem infoN : (Tryd.prog.info? 9).map (fun i => (i.zero, i.size, i.bytes)) = some (some (.string ⟨#[]⟩), 1, 16) := by kernel_rfl
/-- append(l, s), s a text, l the call's own. -/
theorem wpList_appS {ops : Array Oper} {rest : List Oper} {o : Oper} {a : Act} {w : World} {Q : Exit → Act → World → Prop} (hgd : o.guard = none) (d s : Operand)
    (ho : o.op = .call { callee := .builtin .append, args := #[d, s], argTypes := #[40, 40] }) (B r : Nat) (v : Value) (xs : List ByteArray) (y : ByteArray) (N : Nat) (hd : a.eval d = v) (hs : a.eval s = .slice (some ⟨N, 0, none⟩) 1 1) (hN : w.heap.size = N)
    (hr : Hid (xs.length = r)) (hR : NRow w B v xs) (hlen : r + 1 ≤ 1000000) (hB : B ≤ w.heap.size)
    (h : ∀ a' c' w', Hid (NRow w' B (.slice a' (r + 1) c') (xs ++ [y])) → w.grownBy w' v.ownBlock → Below B w w' → wpList Tryd.prog ops Q rest (a.put o.dst (.slice a' (r + 1) c')) w') :
    wpList Tryd.prog ops Q (o :: rest) a (w.alloc (.cells #[.string y] 9)) := by
  subst hN
  obtain ⟨i0, hi, hz0, hz1, hz2⟩ := info_parts infoN
  have hr := hr.out
  have hR2 : w.ownsRow B 9 1 v r (xs.map Value.string) := by have := hR; unfold NRow at this; rw [hr] at this; exact this
  have hne : ∀ q, v.ownBlock = some q → B ≤ q := fun q hq => (World.ownsRow.lt hR2 q hq).1
  refine wpList_append_own_at (w := w.alloc (.cells #[.string y] 9)) hgd d s 40 ho B 9 i0 (.string ⟨#[]⟩) 1 16 Tryd.underlying40 hi hz0 hz1 hz2 rfl (by decide) v r (xs.map Value.string) hd (hR2.alloc _) ⟨w.heap.size, 0, none⟩ 1 1 [.string y] hs rfl (cell_one_new _ _ _) (fun u hu => by rw [List.mem_singleton] at hu; subst hu; rfl) (by unfold maxLen; omega) (by omega) (by simp; omega) ?_
  intro v' w' hown hgrow _ _
  have hl : (xs ++ [y]).length = r + 1 := by rw [List.length_append, hr]; rfl
  have hR3 : NRow w' B v' (xs ++ [y]) := by
    unfold NRow
    rw [hl, List.map_append]
    exact hown
  obtain ⟨a', c', e⟩ := hR3.slice
  rw [hl] at e
  subst e
  exact h a' c' w' hR3 (World.grownBy.trans (World.grownBy_alloc w _ _) hgrow) (((Below.refl B w).alloc hB _).grown hgrow (by simp; omega) hne)
/-- A list of texts is handed out. -/
def NDone (l : List ByteArray) (w : World) (e : Ending) (w' : World) : Prop := ∃ v, e = .returned v ∧ NRow w' w.heap.size v l ∧ Below w.heap.size w w'
/-- How far the series are read. -/
structure SJ (w wr : World) (l : List Pt) (k r : Nat) (v : Value) : Prop where
  row : NRow wr w.heap.size v (serN l k)
  len : (serN l k).length = r
  bel : Below w.heap.size w wr
theorem SJ.later {w wr w2 : World} {l : List Pt} {k r : Nat} {v : Value} (h : SJ w wr l k r v) (g : Below wr.heap.size wr w2) : SJ w w2 l k r v := ⟨h.row.later g, h.len, bel_next h.bel g⟩
/-- Held: a point's name in a block of its own, and one of a list. -/
structure SP2 (w : World) (l : List Pt) (k r : Nat) (v : Value) (P b i j : Nat) (p q : Pt) (w' : World) : Prop where
  s : SJ w w' l k r v
  x : PtAt w' P p
  y : PtO w' b i q
  z : PtO w' b j p
theorem SP2.keep {w w1 w2 : World} {l : List Pt} {k r : Nat} {v : Value} {P b i j : Nat} {p q : Pt} (h : SP2 w l k r v P b i j p q w1) (g : Below w1.heap.size w1 w2) : SP2 w l k r v P b i j p q w2 := ⟨h.s.later g, h.x.later g, h.y.below g h.y.room, h.z.below g h.z.room⟩
theorem SP2.drew {w w1 : World} {l : List Pt} {k r : Nat} {v : Value} {P b i j : Nat} {p q : Pt} (h : SP2 w l k r v P b i j p q w1) : SP2 w l k r v P b i j p q w1.drew := h.keep ((Below.refl _ _).drew)

set_option maxHeartbeats 8000000 in
theorem series_is (a0 : Option Addr) (c0 : Nat) (l : List Pt) (w : World) (hS : Lst w w.heap.size a0 c0 l) (hl : l.length ≤ 900000) (hn : ∀ p ∈ l, p.s.size ≤ 100000) : Calls Tryd.prog 25 #[.slice a0 l.length c0] w (NDone (serL l) w) := by
  have HS := Lib.hid hS
  have HNM := Lib.hid hn
  clear hn
  clear hS
  go_enter Tryd.func25, Tryd.ntmps25
  go_wp2
  go_loopw [3, 8] (fun s i wr => ∃ (k r : Nat) (a5 : Option Addr) (c5 : Nat), k ≤ l.length ∧ i = .int .i64 (k : Int) ∧ s = .slice a5 r c5 ∧ Hid (SJ w wr l k r (.slice a5 r c5))) (fun _ i _ => l.length - (intOf i).toNat)
  case atStart => exact ⟨0, 0, none, 0, by omega, rfl, rfl, Lib.hid ⟨NRow.nil _ _, rfl, Below.refl _ _⟩⟩
  case round =>
    obtain ⟨k, r, a5, c5, hk, rfl, rfl, HJ⟩ := hrel
    obtain ⟨w3, hw3⟩ : ∃ x, x = wr := ⟨_, rfl⟩
    subst hw3
    have hrk : r ≤ k := by rw [← HJ.out.len]; exact serN_len l k
    by_cases hlt : k < l.length
    · have hlti : (k : Int) < (l.length : Int) := by omega
      have hwk : IntKind.i64.wrap (k : Int) = (k : Int) := by rw [IntKind.wrap_i64]; omega
      rcases HS.out.pts.at_ with rfl | ⟨b, off, rfl, hbw, hc⟩
      · simp at hlt
      · have hA := (hc k hlt).below HJ.out.bel hbw
        have HNEW := Lib.hid (fun h => serN_new hlt h)
        obtain ⟨p, hp⟩ : ∃ p, l[k] = p := ⟨_, rfl⟩
        obtain ⟨ip, hip⟩ : ∃ ip, off + k * 6 = ip := ⟨_, rfl⟩
        have kcl := fun w => clone_is p.s w (HNM.out p (by rw [← hp]; exact List.getElem_mem hlt))
        rw [hp, hip] at hA
        have hal := (Below.refl w3.heap.size w3).alloc (Nat.le_refl _) (.cells #[.string p.s, .int .i64 p.t, .int .i64 p.v, .int .i64 p.st.c, .int .i64 p.st.s, .int .i64 p.st.q] 32)
        have HJ4 := Lib.hid (HJ.out.later hal)
        have HP4 := Lib.hid (PtAt.new w3 p)
        have HA4 := Lib.hid (hA.below hal hA.room)
        have HA3 := Lib.hid hA
        obtain ⟨x0, x1, x2, x3, x4, x5⟩ := hA
        by_cases h0 : k = 0
        · subst h0
          obtain rfl : off = ip := by simpa using hip
          have HSN := Lib.hid (show serN l (0 + 1) = serN l 0 ++ [p.s] by rw [HNEW.out (Or.inl rfl), hp])
          obtain ⟨jq, hjq⟩ : ∃ jq, jq = off := ⟨_, rfl⟩
          obtain ⟨q, hq⟩ : ∃ q, q = p := ⟨_, rfl⟩
          have HH4 : SP2 w l 0 r (.slice a5 r c5) w3.heap.size b jq off p q (w3.alloc (.cells #[.string p.s, .int .i64 p.t, .int .i64 p.v, .int .i64 p.st.c, .int .i64 p.st.s, .int .i64 p.st.q] 32)) := ⟨HJ4.out, HP4.out, by rw [hjq, hq]; exact HA4.out, HA4.out⟩
          clear hc hal hp hq hjq
          go_wp2_with fail
          obtain ⟨P, hP⟩ : ∃ P, w3.heap.size = P := ⟨_, rfl⟩
          rw [hP] at HH4
          simp only [hP]
          have H0 := HH4
          clear x0 x1 x2 x3 x4 x5
          refine wp_region_held_drew (S := (SP2 w l 0 r (.slice a5 r c5) P b jq off p q)) (by kernel_rfl) H0.drew (fun hHeld => ?_)
          refine wpAnyH_take (i := 0) (oi := ?sa1o) (v := ?sa1v) ?sa1h (by kernel_rfl) (by kernel_rfl) (by kernel_rfl) ?sa1q ?sa1y hHeld ?sa1r
          case sa1h => (simp only [List.getElem?_toArray, List.getElem?_cons_zero]; rfl)
          case sa1q => exact fun _ _ _ h => h
          case sa1y => (refine Or.inl ⟨by first | kernel_rfl | rfl, ?_⟩; intro w hSw; (try dsimp only at hSw); obtain ⟨-, ⟨c0, -, -, -, -, -⟩, ⟨d0, -, -, -, -, -⟩, ⟨e0, -, -, -, -, -⟩⟩ := hSw; go_simp <;> (try with_reducible rfl))
          try simp only [Act.put, List.setIfInBounds_toArray, List.set_cons_zero, List.set_cons_succ]
          refine wpAnyH_take (i := 1) (oi := ?sa2o) (v := ?sa2v) ?sa2h (by kernel_rfl) (by kernel_rfl) (by kernel_rfl) ?sa2q ?sa2y hHeld ?sa2r
          case sa2h => (simp only [List.getElem?_toArray, List.getElem?_cons_succ, List.getElem?_cons_zero]; rfl)
          case sa2q => exact fun _ _ _ h => h
          case sa2y => (refine Or.inl ⟨by first | kernel_rfl | rfl, ?_⟩; intro w hSw; (try dsimp only at hSw); obtain ⟨-, ⟨c0, -, -, -, -, -⟩, ⟨d0, -, -, -, -, -⟩, ⟨e0, -, -, -, -, -⟩⟩ := hSw; go_simp <;> (try with_reducible rfl))
          try simp only [Act.put, List.setIfInBounds_toArray, List.set_cons_zero, List.set_cons_succ]
          refine wpAnyH_take (i := 2) (oi := ?sa3o) (v := ?sa3v) ?sa3h (by kernel_rfl) (by kernel_rfl) (by kernel_rfl) ?sa3q ?sa3y hHeld ?sa3r
          case sa3h => (simp only [List.getElem?_toArray, List.getElem?_cons_succ, List.getElem?_cons_zero]; rfl)
          case sa3q => exact fun _ _ _ h => h
          case sa3y => (refine Or.inl ⟨by first | kernel_rfl | rfl, ?_⟩; intro w hSw; (try dsimp only at hSw); obtain ⟨-, ⟨c0, -, -, -, -, -⟩, ⟨d0, -, -, -, -, -⟩, ⟨e0, -, -, -, -, -⟩⟩ := hSw; go_simp <;> (try with_reducible rfl))
          try simp only [Act.put, List.setIfInBounds_toArray, List.set_cons_zero, List.set_cons_succ]
          refine wpAnyH_take (i := 3) (oi := ?sa4o) (v := undef) ?sa4h (by kernel_rfl) (by kernel_rfl) (by kernel_rfl) ?sa4q ?sa4y hHeld ?sa4r
          case sa4h => (simp only [List.getElem?_toArray, List.getElem?_cons_succ, List.getElem?_cons_zero]; rfl)
          case sa4q => exact fun _ _ _ h => h
          case sa4y => exact Or.inr ⟨by first | kernel_rfl | rfl, rfl⟩
          try simp only [Act.put, List.setIfInBounds_toArray, List.set_cons_zero, List.set_cons_succ]
          refine wpAnyH_take (i := 4) (oi := ?sa5o) (v := undef) ?sa5h (by kernel_rfl) (by kernel_rfl) (by kernel_rfl) ?sa5q ?sa5y hHeld ?sa5r
          case sa5h => (simp only [List.getElem?_toArray, List.getElem?_cons_succ, List.getElem?_cons_zero]; rfl)
          case sa5q => exact fun _ _ _ h => h
          case sa5y => exact Or.inr ⟨by first | kernel_rfl | rfl, rfl⟩
          try simp only [Act.put, List.setIfInBounds_toArray, List.set_cons_zero, List.set_cons_succ]
          refine wpAnyH_take (i := 5) (oi := ?sa6o) (v := undef) ?sa6h (by kernel_rfl) (by kernel_rfl) (by kernel_rfl) ?sa6q ?sa6y hHeld ?sa6r
          case sa6h => (simp only [List.getElem?_toArray, List.getElem?_cons_succ, List.getElem?_cons_zero]; rfl)
          case sa6q => exact fun _ _ _ h => h
          case sa6y => exact Or.inr ⟨by first | kernel_rfl | rfl, rfl⟩
          try simp only [Act.put, List.setIfInBounds_toArray, List.set_cons_zero, List.set_cons_succ]
          refine wpAnyH_take (i := 6) (oi := ?sa7o) (v := undef) ?sa7h (by kernel_rfl) (by kernel_rfl) (by kernel_rfl) ?sa7q ?sa7y hHeld ?sa7r
          case sa7h => (simp only [List.getElem?_toArray, List.getElem?_cons_succ, List.getElem?_cons_zero]; rfl)
          case sa7q => exact fun _ _ _ h => h
          case sa7y => exact Or.inr ⟨by first | kernel_rfl | rfl, rfl⟩
          try simp only [Act.put, List.setIfInBounds_toArray, List.set_cons_zero, List.set_cons_succ]
          refine wpAnyH_take (i := 7) (oi := ?sa8o) (v := undef) ?sa8h (by kernel_rfl) (by kernel_rfl) (by kernel_rfl) ?sa8q ?sa8y hHeld ?sa8r
          case sa8h => (simp only [List.getElem?_toArray, List.getElem?_cons_succ, List.getElem?_cons_zero]; rfl)
          case sa8q => exact fun _ _ _ h => h
          case sa8y => exact Or.inr ⟨by first | kernel_rfl | rfl, rfl⟩
          try simp only [Act.put, List.setIfInBounds_toArray, List.set_cons_zero, List.set_cons_succ]
          refine wpAnyH_take (i := 8) (oi := ?sa9o) (v := undef) ?sa9h (by kernel_rfl) (by kernel_rfl) (by kernel_rfl) ?sa9q ?sa9y hHeld ?sa9r
          case sa9h => (simp only [List.getElem?_toArray, List.getElem?_cons_succ, List.getElem?_cons_zero]; rfl)
          case sa9q => exact fun _ _ _ h => h
          case sa9y => exact Or.inr ⟨by first | kernel_rfl | rfl, rfl⟩
          try simp only [Act.put, List.setIfInBounds_toArray, List.set_cons_zero, List.set_cons_succ]
          refine wpAnyH_take (i := 9) (oi := ?sa10o) (v := undef) ?sa10h (by kernel_rfl) (by kernel_rfl) (by kernel_rfl) ?sa10q ?sa10y hHeld ?sa10r
          case sa10h => (simp only [List.getElem?_toArray, List.getElem?_cons_succ, List.getElem?_cons_zero]; rfl)
          case sa10q => exact fun _ _ _ h => h
          case sa10y => exact Or.inr ⟨by first | kernel_rfl | rfl, rfl⟩
          try simp only [Act.put, List.setIfInBounds_toArray, List.set_cons_zero, List.set_cons_succ]
          refine wpAnyH_take (i := 10) (oi := ?sa11o) (v := undef) ?sa11h (by kernel_rfl) (by kernel_rfl) (by kernel_rfl) ?sa11q ?sa11y hHeld ?sa11r
          case sa11h => (simp only [List.getElem?_toArray, List.getElem?_cons_succ, List.getElem?_cons_zero]; rfl)
          case sa11q => exact fun _ _ _ h => h
          case sa11y => exact Or.inr ⟨by first | kernel_rfl | rfl, rfl⟩
          try simp only [Act.put, List.setIfInBounds_toArray, List.set_cons_zero, List.set_cons_succ]
          refine wpAnyH_take (i := 11) (oi := ?sa12o) (v := undef) ?sa12h (by kernel_rfl) (by kernel_rfl) (by kernel_rfl) ?sa12q ?sa12y hHeld ?sa12r
          case sa12h => (simp only [List.getElem?_toArray, List.getElem?_cons_succ, List.getElem?_cons_zero]; rfl)
          case sa12q => exact fun _ _ _ h => h
          case sa12y => exact Or.inr ⟨by first | kernel_rfl | rfl, rfl⟩
          try simp only [Act.put, List.setIfInBounds_toArray, List.set_cons_zero, List.set_cons_succ]
          refine wpAnyH_take (i := 12) (oi := ?sa13o) (v := ?sa13v) ?sa13h (by kernel_rfl) (by kernel_rfl) (by kernel_rfl) ?sa13q ?sa13y hHeld ?sa13r
          case sa13h => (simp only [List.getElem?_toArray, List.getElem?_cons_succ, List.getElem?_cons_zero]; rfl)
          case sa13q => exact fun _ _ _ h => h
          case sa13y => (refine Or.inl ⟨by first | kernel_rfl | rfl, ?_⟩; intro w hSw; (try dsimp only at hSw); obtain ⟨-, ⟨c0, -, -, -, -, -⟩, ⟨d0, -, -, -, -, -⟩, ⟨e0, -, -, -, -, -⟩⟩ := hSw; go_simp <;> (try with_reducible rfl))
          try simp only [Act.put, List.setIfInBounds_toArray, List.set_cons_zero, List.set_cons_succ]
          refine wpAnyH_done (by kernel_rfl) ?_ _
          have HH := Lib.hid hHeld
          have hx9 := hHeld.x
          have hz9 := hHeld.z
          obtain ⟨v0, v1, v2, v3, v4, v5⟩ := hx9
          obtain ⟨u0, u1, u2, u3, u4, u5⟩ := hz9
          clear hHeld
          go_wp2_with (first | (go_at_call 44; (with_reducible refine (kcl _).mono ?_); rintro e w5 ⟨rfl, hb5⟩; (have HH5 := Lib.hid (HH.out.keep hb5)); clear hb5) | (at_builtin; refine wpList_appS (w := w5) rfl _ _ rfl w.heap.size r (.slice a5 r c5) (serN l 0) p.s (w5).heap.size rfl rfl rfl (Lib.hid HH5.out.s.len) HH5.out.s.row (by omega) HH5.out.s.bel.size ?_; intro a6 c6 w6 hrow6 _ hb6; have HR6 := Lib.hid hrow6.out; have HB6 := Lib.hid (HH5.out.s.bel.trans hb6); clear hrow6 hb6))
          clear v0 v1 v2 v3 v4 v5 u0 u1 u2 u3 u4 u5
          go_roundw
          case rel => exact ⟨1, r + 1, a6, c6, by omega, by go_num, rfl, Lib.hid ⟨by rw [HSN.out]; exact HR6.out, by rw [HSN.out, List.length_append, HJ4.out.len]; rfl, HB6.out⟩⟩
          case measure => simp [intOf]; omega
        · have hkn : 0 < k := by omega
          have hki : ((k : Int) == 0) = false := by rw [beq_eq_false_iff_ne]; omega
          have hkb : (k == 0) = false := by rw [beq_eq_false_iff_ne]; omega
          obtain ⟨m, hm⟩ : ∃ m, k = m + 1 := ⟨k - 1, by omega⟩
          have hmi : (k : Int) - 1 = (m : Int) := by omega
          have hml : (m : Int) < (l.length : Int) := by omega
          have hwm : IntKind.i64.wrap (m : Int) = (m : Int) := by rw [IntKind.wrap_i64]; omega
          have hmk : k - 1 = m := by omega
          have HOLD := Lib.hid (fun h => serN_old hlt h0 h)
          simp only [hmk] at HNEW HOLD
          obtain ⟨q, hq⟩ : ∃ q, l[m]'(by omega) = q := ⟨_, rfl⟩
          obtain ⟨jq, hjq⟩ : ∃ jq, off + m * 6 = jq := ⟨_, rfl⟩
          have hC := (hc m (by omega)).below HJ.out.bel hbw
          rw [hq, hjq] at hC
          rw [hp, hq] at HNEW HOLD
          have HH4 : SP2 w l k r (.slice a5 r c5) w3.heap.size b jq ip p q (w3.alloc (.cells #[.string p.s, .int .i64 p.t, .int .i64 p.v, .int .i64 p.st.c, .int .i64 p.st.s, .int .i64 p.st.q] 32)) := ⟨HJ4.out, HP4.out, hC.below hal hC.room, HA4.out⟩
          clear hc hal hp hq hC hmk hm
          by_cases heq : p.s = q.s
          · have hqq := seq_eq heq
            have hqn : (p.s.toList != q.s.toList) = false := by simp [bne, hqq]
            have HSN := Lib.hid (HOLD.out heq)
            clear heq HNEW HOLD h0
            go_wp2_with fail
            obtain ⟨P, hP⟩ : ∃ P, w3.heap.size = P := ⟨_, rfl⟩
            rw [hP] at HH4
            simp only [hP]
            have H0 := HH4
            clear x0 x1 x2 x3 x4 x5
            refine wp_region_held_drew (S := (SP2 w l k r (.slice a5 r c5) P b jq ip p q)) (by kernel_rfl) H0.drew (fun hHeld => ?_)
            refine wpAnyH_take (i := 0) (oi := ?sb1o) (v := ?sb1v) ?sb1h (by kernel_rfl) (by kernel_rfl) (by kernel_rfl) ?sb1q ?sb1y hHeld ?sb1r
            case sb1h => (simp only [List.getElem?_toArray, List.getElem?_cons_zero]; rfl)
            case sb1q => exact fun _ _ _ h => h
            case sb1y => (refine Or.inl ⟨by first | kernel_rfl | rfl, ?_⟩; intro w hSw; (try dsimp only at hSw); obtain ⟨-, ⟨c0, -, -, -, -, -⟩, ⟨d0, -, -, -, -, -⟩, ⟨e0, -, -, -, -, -⟩⟩ := hSw; go_simp <;> (try with_reducible rfl))
            try simp only [Act.put, List.setIfInBounds_toArray, List.set_cons_zero, List.set_cons_succ]
            refine wpAnyH_take (i := 1) (oi := ?sb2o) (v := ?sb2v) ?sb2h (by kernel_rfl) (by kernel_rfl) (by kernel_rfl) ?sb2q ?sb2y hHeld ?sb2r
            case sb2h => (simp only [List.getElem?_toArray, List.getElem?_cons_succ, List.getElem?_cons_zero]; rfl)
            case sb2q => exact fun _ _ _ h => h
            case sb2y => (refine Or.inl ⟨by first | kernel_rfl | rfl, ?_⟩; intro w hSw; (try dsimp only at hSw); obtain ⟨-, ⟨c0, -, -, -, -, -⟩, ⟨d0, -, -, -, -, -⟩, ⟨e0, -, -, -, -, -⟩⟩ := hSw; go_simp <;> (try with_reducible rfl))
            try simp only [Act.put, List.setIfInBounds_toArray, List.set_cons_zero, List.set_cons_succ]
            refine wpAnyH_take (i := 2) (oi := ?sb3o) (v := ?sb3v) ?sb3h (by kernel_rfl) (by kernel_rfl) (by kernel_rfl) ?sb3q ?sb3y hHeld ?sb3r
            case sb3h => (simp only [List.getElem?_toArray, List.getElem?_cons_succ, List.getElem?_cons_zero]; rfl)
            case sb3q => exact fun _ _ _ h => h
            case sb3y => (refine Or.inl ⟨by first | kernel_rfl | rfl, ?_⟩; intro w hSw; (try dsimp only at hSw); obtain ⟨-, ⟨c0, -, -, -, -, -⟩, ⟨d0, -, -, -, -, -⟩, ⟨e0, -, -, -, -, -⟩⟩ := hSw; go_simp <;> (try with_reducible rfl))
            try simp only [Act.put, List.setIfInBounds_toArray, List.set_cons_zero, List.set_cons_succ]
            refine wpAnyH_take (i := 3) (oi := ?sb4o) (v := ?sb4v) ?sb4h (by kernel_rfl) (by kernel_rfl) (by kernel_rfl) ?sb4q ?sb4y hHeld ?sb4r
            case sb4h => (simp only [List.getElem?_toArray, List.getElem?_cons_succ, List.getElem?_cons_zero]; rfl)
            case sb4q => exact fun _ _ _ h => h
            case sb4y => (refine Or.inl ⟨by first | kernel_rfl | rfl, ?_⟩; intro w hSw; (try dsimp only at hSw); obtain ⟨-, ⟨c0, -, -, -, -, -⟩, ⟨d0, -, -, -, -, -⟩, ⟨e0, -, -, -, -, -⟩⟩ := hSw; go_simp <;> (try with_reducible rfl))
            try simp only [Act.put, List.setIfInBounds_toArray, List.set_cons_zero, List.set_cons_succ]
            refine wpAnyH_take (i := 4) (oi := ?sb5o) (v := ?sb5v) ?sb5h (by kernel_rfl) (by kernel_rfl) (by kernel_rfl) ?sb5q ?sb5y hHeld ?sb5r
            case sb5h => (simp only [List.getElem?_toArray, List.getElem?_cons_succ, List.getElem?_cons_zero]; rfl)
            case sb5q => exact fun _ _ _ h => h
            case sb5y => (refine Or.inl ⟨by first | kernel_rfl | rfl, ?_⟩; intro w hSw; (try dsimp only at hSw); obtain ⟨-, ⟨c0, -, -, -, -, -⟩, ⟨d0, -, -, -, -, -⟩, ⟨e0, -, -, -, -, -⟩⟩ := hSw; go_simp <;> (try with_reducible rfl))
            try simp only [Act.put, List.setIfInBounds_toArray, List.set_cons_zero, List.set_cons_succ]
            refine wpAnyH_take (i := 5) (oi := ?sb6o) (v := ?sb6v) ?sb6h (by kernel_rfl) (by kernel_rfl) (by kernel_rfl) ?sb6q ?sb6y hHeld ?sb6r
            case sb6h => (simp only [List.getElem?_toArray, List.getElem?_cons_succ, List.getElem?_cons_zero]; rfl)
            case sb6q => exact fun _ _ _ h => h
            case sb6y => (refine Or.inl ⟨by first | kernel_rfl | rfl, ?_⟩; intro w hSw; (try dsimp only at hSw); obtain ⟨-, ⟨c0, -, -, -, -, -⟩, ⟨d0, -, -, -, -, -⟩, ⟨e0, -, -, -, -, -⟩⟩ := hSw; go_simp <;> (try with_reducible rfl))
            try simp only [Act.put, List.setIfInBounds_toArray, List.set_cons_zero, List.set_cons_succ]
            refine wpAnyH_take (i := 6) (oi := ?sb7o) (v := ?sb7v) ?sb7h (by kernel_rfl) (by kernel_rfl) (by kernel_rfl) ?sb7q ?sb7y hHeld ?sb7r
            case sb7h => (simp only [List.getElem?_toArray, List.getElem?_cons_succ, List.getElem?_cons_zero]; rfl)
            case sb7q => exact fun _ _ _ h => h
            case sb7y => (refine Or.inl ⟨by first | kernel_rfl | rfl, ?_⟩; intro w hSw; (try dsimp only at hSw); obtain ⟨-, ⟨c0, -, -, -, -, -⟩, ⟨d0, -, -, -, -, -⟩, ⟨e0, -, -, -, -, -⟩⟩ := hSw; go_simp <;> (try with_reducible rfl))
            try simp only [Act.put, List.setIfInBounds_toArray, List.set_cons_zero, List.set_cons_succ]
            refine wpAnyH_take (i := 7) (oi := ?sb8o) (v := ?sb8v) ?sb8h (by kernel_rfl) (by kernel_rfl) (by kernel_rfl) ?sb8q ?sb8y hHeld ?sb8r
            case sb8h => (simp only [List.getElem?_toArray, List.getElem?_cons_succ, List.getElem?_cons_zero]; rfl)
            case sb8q => exact fun _ _ _ h => h
            case sb8y => (refine Or.inl ⟨by first | kernel_rfl | rfl, ?_⟩; intro w hSw; (try dsimp only at hSw); obtain ⟨-, ⟨c0, -, -, -, -, -⟩, ⟨d0, -, -, -, -, -⟩, ⟨e0, -, -, -, -, -⟩⟩ := hSw; go_simp <;> (try with_reducible rfl))
            try simp only [Act.put, List.setIfInBounds_toArray, List.set_cons_zero, List.set_cons_succ]
            refine wpAnyH_take (i := 8) (oi := ?sb9o) (v := ?sb9v) ?sb9h (by kernel_rfl) (by kernel_rfl) (by kernel_rfl) ?sb9q ?sb9y hHeld ?sb9r
            case sb9h => (simp only [List.getElem?_toArray, List.getElem?_cons_succ, List.getElem?_cons_zero]; rfl)
            case sb9q => exact fun _ _ _ h => h
            case sb9y => (refine Or.inl ⟨by first | kernel_rfl | rfl, ?_⟩; intro w hSw; (try dsimp only at hSw); obtain ⟨-, ⟨c0, -, -, -, -, -⟩, ⟨d0, -, -, -, -, -⟩, ⟨e0, -, -, -, -, -⟩⟩ := hSw; go_simp <;> (try with_reducible rfl))
            try simp only [Act.put, List.setIfInBounds_toArray, List.set_cons_zero, List.set_cons_succ]
            refine wpAnyH_take (i := 9) (oi := ?sb10o) (v := ?sb10v) ?sb10h (by kernel_rfl) (by kernel_rfl) (by kernel_rfl) ?sb10q ?sb10y hHeld ?sb10r
            case sb10h => (simp only [List.getElem?_toArray, List.getElem?_cons_succ, List.getElem?_cons_zero]; rfl)
            case sb10q => exact fun _ _ _ h => h
            case sb10y => (refine Or.inl ⟨by first | kernel_rfl | rfl, ?_⟩; intro w hSw; (try dsimp only at hSw); obtain ⟨-, ⟨c0, -, -, -, -, -⟩, ⟨d0, -, -, -, -, -⟩, ⟨e0, -, -, -, -, -⟩⟩ := hSw; go_simp <;> (try with_reducible rfl))
            try simp only [Act.put, List.setIfInBounds_toArray, List.set_cons_zero, List.set_cons_succ]
            refine wpAnyH_take (i := 10) (oi := ?sb11o) (v := ?sb11v) ?sb11h (by kernel_rfl) (by kernel_rfl) (by kernel_rfl) ?sb11q ?sb11y hHeld ?sb11r
            case sb11h => (simp only [List.getElem?_toArray, List.getElem?_cons_succ, List.getElem?_cons_zero]; rfl)
            case sb11q => exact fun _ _ _ h => h
            case sb11y => (refine Or.inl ⟨by first | kernel_rfl | rfl, ?_⟩; intro w hSw; (try dsimp only at hSw); obtain ⟨-, ⟨c0, -, -, -, -, -⟩, ⟨d0, -, -, -, -, -⟩, ⟨e0, -, -, -, -, -⟩⟩ := hSw; go_simp <;> (try with_reducible rfl))
            try simp only [Act.put, List.setIfInBounds_toArray, List.set_cons_zero, List.set_cons_succ]
            refine wpAnyH_take (i := 11) (oi := ?sb12o) (v := ?sb12v) ?sb12h (by kernel_rfl) (by kernel_rfl) (by kernel_rfl) ?sb12q ?sb12y hHeld ?sb12r
            case sb12h => (simp only [List.getElem?_toArray, List.getElem?_cons_succ, List.getElem?_cons_zero]; rfl)
            case sb12q => exact fun _ _ _ h => h
            case sb12y => (refine Or.inl ⟨by first | kernel_rfl | rfl, ?_⟩; intro w hSw; (try dsimp only at hSw); obtain ⟨-, ⟨c0, -, -, -, -, -⟩, ⟨d0, -, -, -, -, -⟩, ⟨e0, -, -, -, -, -⟩⟩ := hSw; go_simp <;> (try with_reducible rfl))
            try simp only [Act.put, List.setIfInBounds_toArray, List.set_cons_zero, List.set_cons_succ]
            refine wpAnyH_take (i := 12) (oi := ?sb13o) (v := ?sb13v) ?sb13h (by kernel_rfl) (by kernel_rfl) (by kernel_rfl) ?sb13q ?sb13y hHeld ?sb13r
            case sb13h => (simp only [List.getElem?_toArray, List.getElem?_cons_succ, List.getElem?_cons_zero]; rfl)
            case sb13q => exact fun _ _ _ h => h
            case sb13y => (refine Or.inl ⟨by first | kernel_rfl | rfl, ?_⟩; intro w hSw; (try dsimp only at hSw); obtain ⟨-, ⟨c0, -, -, -, -, -⟩, ⟨d0, -, -, -, -, -⟩, ⟨e0, -, -, -, -, -⟩⟩ := hSw; go_simp <;> (try with_reducible rfl))
            try simp only [Act.put, List.setIfInBounds_toArray, List.set_cons_zero, List.set_cons_succ]
            refine wpAnyH_done (by kernel_rfl) ?_ _
            have HH := Lib.hid hHeld
            clear hHeld
            go_wp2
            go_roundw
            case rel => exact ⟨k + 1, r, a5, c5, by omega, by go_num, rfl, Lib.hid ⟨by rw [HSN.out]; exact HH.out.s.row, by rw [HSN.out]; exact HH.out.s.len, HH.out.s.bel⟩⟩
            case measure => simp [intOf]; omega
          · have hqq := seq_ne heq
            have hqn : (p.s.toList != q.s.toList) = true := by simp [bne, hqq]
            have HSN := Lib.hid (HNEW.out (Or.inr heq))
            clear heq HNEW HOLD h0
            go_wp2_with fail
            obtain ⟨P, hP⟩ : ∃ P, w3.heap.size = P := ⟨_, rfl⟩
            rw [hP] at HH4
            simp only [hP]
            have H0 := HH4
            clear x0 x1 x2 x3 x4 x5
            refine wp_region_held_drew (S := (SP2 w l k r (.slice a5 r c5) P b jq ip p q)) (by kernel_rfl) H0.drew (fun hHeld => ?_)
            refine wpAnyH_take (i := 0) (oi := ?sc1o) (v := ?sc1v) ?sc1h (by kernel_rfl) (by kernel_rfl) (by kernel_rfl) ?sc1q ?sc1y hHeld ?sc1r
            case sc1h => (simp only [List.getElem?_toArray, List.getElem?_cons_zero]; rfl)
            case sc1q => exact fun _ _ _ h => h
            case sc1y => (refine Or.inl ⟨by first | kernel_rfl | rfl, ?_⟩; intro w hSw; (try dsimp only at hSw); obtain ⟨-, ⟨c0, -, -, -, -, -⟩, ⟨d0, -, -, -, -, -⟩, ⟨e0, -, -, -, -, -⟩⟩ := hSw; go_simp <;> (try with_reducible rfl))
            try simp only [Act.put, List.setIfInBounds_toArray, List.set_cons_zero, List.set_cons_succ]
            refine wpAnyH_take (i := 1) (oi := ?sc2o) (v := ?sc2v) ?sc2h (by kernel_rfl) (by kernel_rfl) (by kernel_rfl) ?sc2q ?sc2y hHeld ?sc2r
            case sc2h => (simp only [List.getElem?_toArray, List.getElem?_cons_succ, List.getElem?_cons_zero]; rfl)
            case sc2q => exact fun _ _ _ h => h
            case sc2y => (refine Or.inl ⟨by first | kernel_rfl | rfl, ?_⟩; intro w hSw; (try dsimp only at hSw); obtain ⟨-, ⟨c0, -, -, -, -, -⟩, ⟨d0, -, -, -, -, -⟩, ⟨e0, -, -, -, -, -⟩⟩ := hSw; go_simp <;> (try with_reducible rfl))
            try simp only [Act.put, List.setIfInBounds_toArray, List.set_cons_zero, List.set_cons_succ]
            refine wpAnyH_take (i := 2) (oi := ?sc3o) (v := ?sc3v) ?sc3h (by kernel_rfl) (by kernel_rfl) (by kernel_rfl) ?sc3q ?sc3y hHeld ?sc3r
            case sc3h => (simp only [List.getElem?_toArray, List.getElem?_cons_succ, List.getElem?_cons_zero]; rfl)
            case sc3q => exact fun _ _ _ h => h
            case sc3y => (refine Or.inl ⟨by first | kernel_rfl | rfl, ?_⟩; intro w hSw; (try dsimp only at hSw); obtain ⟨-, ⟨c0, -, -, -, -, -⟩, ⟨d0, -, -, -, -, -⟩, ⟨e0, -, -, -, -, -⟩⟩ := hSw; go_simp <;> (try with_reducible rfl))
            try simp only [Act.put, List.setIfInBounds_toArray, List.set_cons_zero, List.set_cons_succ]
            refine wpAnyH_take (i := 3) (oi := ?sc4o) (v := ?sc4v) ?sc4h (by kernel_rfl) (by kernel_rfl) (by kernel_rfl) ?sc4q ?sc4y hHeld ?sc4r
            case sc4h => (simp only [List.getElem?_toArray, List.getElem?_cons_succ, List.getElem?_cons_zero]; rfl)
            case sc4q => exact fun _ _ _ h => h
            case sc4y => (refine Or.inl ⟨by first | kernel_rfl | rfl, ?_⟩; intro w hSw; (try dsimp only at hSw); obtain ⟨-, ⟨c0, -, -, -, -, -⟩, ⟨d0, -, -, -, -, -⟩, ⟨e0, -, -, -, -, -⟩⟩ := hSw; go_simp <;> (try with_reducible rfl))
            try simp only [Act.put, List.setIfInBounds_toArray, List.set_cons_zero, List.set_cons_succ]
            refine wpAnyH_take (i := 4) (oi := ?sc5o) (v := ?sc5v) ?sc5h (by kernel_rfl) (by kernel_rfl) (by kernel_rfl) ?sc5q ?sc5y hHeld ?sc5r
            case sc5h => (simp only [List.getElem?_toArray, List.getElem?_cons_succ, List.getElem?_cons_zero]; rfl)
            case sc5q => exact fun _ _ _ h => h
            case sc5y => (refine Or.inl ⟨by first | kernel_rfl | rfl, ?_⟩; intro w hSw; (try dsimp only at hSw); obtain ⟨-, ⟨c0, -, -, -, -, -⟩, ⟨d0, -, -, -, -, -⟩, ⟨e0, -, -, -, -, -⟩⟩ := hSw; go_simp <;> (try with_reducible rfl))
            try simp only [Act.put, List.setIfInBounds_toArray, List.set_cons_zero, List.set_cons_succ]
            refine wpAnyH_take (i := 5) (oi := ?sc6o) (v := ?sc6v) ?sc6h (by kernel_rfl) (by kernel_rfl) (by kernel_rfl) ?sc6q ?sc6y hHeld ?sc6r
            case sc6h => (simp only [List.getElem?_toArray, List.getElem?_cons_succ, List.getElem?_cons_zero]; rfl)
            case sc6q => exact fun _ _ _ h => h
            case sc6y => (refine Or.inl ⟨by first | kernel_rfl | rfl, ?_⟩; intro w hSw; (try dsimp only at hSw); obtain ⟨-, ⟨c0, -, -, -, -, -⟩, ⟨d0, -, -, -, -, -⟩, ⟨e0, -, -, -, -, -⟩⟩ := hSw; go_simp <;> (try with_reducible rfl))
            try simp only [Act.put, List.setIfInBounds_toArray, List.set_cons_zero, List.set_cons_succ]
            refine wpAnyH_take (i := 6) (oi := ?sc7o) (v := ?sc7v) ?sc7h (by kernel_rfl) (by kernel_rfl) (by kernel_rfl) ?sc7q ?sc7y hHeld ?sc7r
            case sc7h => (simp only [List.getElem?_toArray, List.getElem?_cons_succ, List.getElem?_cons_zero]; rfl)
            case sc7q => exact fun _ _ _ h => h
            case sc7y => (refine Or.inl ⟨by first | kernel_rfl | rfl, ?_⟩; intro w hSw; (try dsimp only at hSw); obtain ⟨-, ⟨c0, -, -, -, -, -⟩, ⟨d0, -, -, -, -, -⟩, ⟨e0, -, -, -, -, -⟩⟩ := hSw; go_simp <;> (try with_reducible rfl))
            try simp only [Act.put, List.setIfInBounds_toArray, List.set_cons_zero, List.set_cons_succ]
            refine wpAnyH_take (i := 7) (oi := ?sc8o) (v := ?sc8v) ?sc8h (by kernel_rfl) (by kernel_rfl) (by kernel_rfl) ?sc8q ?sc8y hHeld ?sc8r
            case sc8h => (simp only [List.getElem?_toArray, List.getElem?_cons_succ, List.getElem?_cons_zero]; rfl)
            case sc8q => exact fun _ _ _ h => h
            case sc8y => (refine Or.inl ⟨by first | kernel_rfl | rfl, ?_⟩; intro w hSw; (try dsimp only at hSw); obtain ⟨-, ⟨c0, -, -, -, -, -⟩, ⟨d0, -, -, -, -, -⟩, ⟨e0, -, -, -, -, -⟩⟩ := hSw; go_simp <;> (try with_reducible rfl))
            try simp only [Act.put, List.setIfInBounds_toArray, List.set_cons_zero, List.set_cons_succ]
            refine wpAnyH_take (i := 8) (oi := ?sc9o) (v := ?sc9v) ?sc9h (by kernel_rfl) (by kernel_rfl) (by kernel_rfl) ?sc9q ?sc9y hHeld ?sc9r
            case sc9h => (simp only [List.getElem?_toArray, List.getElem?_cons_succ, List.getElem?_cons_zero]; rfl)
            case sc9q => exact fun _ _ _ h => h
            case sc9y => (refine Or.inl ⟨by first | kernel_rfl | rfl, ?_⟩; intro w hSw; (try dsimp only at hSw); obtain ⟨-, ⟨c0, -, -, -, -, -⟩, ⟨d0, -, -, -, -, -⟩, ⟨e0, -, -, -, -, -⟩⟩ := hSw; go_simp <;> (try with_reducible rfl))
            try simp only [Act.put, List.setIfInBounds_toArray, List.set_cons_zero, List.set_cons_succ]
            refine wpAnyH_take (i := 9) (oi := ?sc10o) (v := ?sc10v) ?sc10h (by kernel_rfl) (by kernel_rfl) (by kernel_rfl) ?sc10q ?sc10y hHeld ?sc10r
            case sc10h => (simp only [List.getElem?_toArray, List.getElem?_cons_succ, List.getElem?_cons_zero]; rfl)
            case sc10q => exact fun _ _ _ h => h
            case sc10y => (refine Or.inl ⟨by first | kernel_rfl | rfl, ?_⟩; intro w hSw; (try dsimp only at hSw); obtain ⟨-, ⟨c0, -, -, -, -, -⟩, ⟨d0, -, -, -, -, -⟩, ⟨e0, -, -, -, -, -⟩⟩ := hSw; go_simp <;> (try with_reducible rfl))
            try simp only [Act.put, List.setIfInBounds_toArray, List.set_cons_zero, List.set_cons_succ]
            refine wpAnyH_take (i := 10) (oi := ?sc11o) (v := ?sc11v) ?sc11h (by kernel_rfl) (by kernel_rfl) (by kernel_rfl) ?sc11q ?sc11y hHeld ?sc11r
            case sc11h => (simp only [List.getElem?_toArray, List.getElem?_cons_succ, List.getElem?_cons_zero]; rfl)
            case sc11q => exact fun _ _ _ h => h
            case sc11y => (refine Or.inl ⟨by first | kernel_rfl | rfl, ?_⟩; intro w hSw; (try dsimp only at hSw); obtain ⟨-, ⟨c0, -, -, -, -, -⟩, ⟨d0, -, -, -, -, -⟩, ⟨e0, -, -, -, -, -⟩⟩ := hSw; go_simp <;> (try with_reducible rfl))
            try simp only [Act.put, List.setIfInBounds_toArray, List.set_cons_zero, List.set_cons_succ]
            refine wpAnyH_take (i := 11) (oi := ?sc12o) (v := ?sc12v) ?sc12h (by kernel_rfl) (by kernel_rfl) (by kernel_rfl) ?sc12q ?sc12y hHeld ?sc12r
            case sc12h => (simp only [List.getElem?_toArray, List.getElem?_cons_succ, List.getElem?_cons_zero]; rfl)
            case sc12q => exact fun _ _ _ h => h
            case sc12y => (refine Or.inl ⟨by first | kernel_rfl | rfl, ?_⟩; intro w hSw; (try dsimp only at hSw); obtain ⟨-, ⟨c0, -, -, -, -, -⟩, ⟨d0, -, -, -, -, -⟩, ⟨e0, -, -, -, -, -⟩⟩ := hSw; go_simp <;> (try with_reducible rfl))
            try simp only [Act.put, List.setIfInBounds_toArray, List.set_cons_zero, List.set_cons_succ]
            refine wpAnyH_take (i := 12) (oi := ?sc13o) (v := ?sc13v) ?sc13h (by kernel_rfl) (by kernel_rfl) (by kernel_rfl) ?sc13q ?sc13y hHeld ?sc13r
            case sc13h => (simp only [List.getElem?_toArray, List.getElem?_cons_succ, List.getElem?_cons_zero]; rfl)
            case sc13q => exact fun _ _ _ h => h
            case sc13y => (refine Or.inl ⟨by first | kernel_rfl | rfl, ?_⟩; intro w hSw; (try dsimp only at hSw); obtain ⟨-, ⟨c0, -, -, -, -, -⟩, ⟨d0, -, -, -, -, -⟩, ⟨e0, -, -, -, -, -⟩⟩ := hSw; go_simp <;> (try with_reducible rfl))
            try simp only [Act.put, List.setIfInBounds_toArray, List.set_cons_zero, List.set_cons_succ]
            refine wpAnyH_done (by kernel_rfl) ?_ _
            have HH := Lib.hid hHeld
            have hx9 := hHeld.x
            have hz9 := hHeld.z
            obtain ⟨v0, v1, v2, v3, v4, v5⟩ := hx9
            obtain ⟨u0, u1, u2, u3, u4, u5⟩ := hz9
            clear hHeld
            go_wp2_with (first | (go_at_call 44; (with_reducible refine (kcl _).mono ?_); rintro e w5 ⟨rfl, hb5⟩; (have HH5 := Lib.hid (HH.out.keep hb5)); clear hb5) | (at_builtin; refine wpList_appS (w := w5) rfl _ _ rfl w.heap.size r (.slice a5 r c5) (serN l k) p.s (w5).heap.size rfl rfl rfl (Lib.hid HH5.out.s.len) HH5.out.s.row (by omega) HH5.out.s.bel.size ?_; intro a6 c6 w6 hrow6 _ hb6; have HR6 := Lib.hid hrow6.out; have HB6 := Lib.hid (HH5.out.s.bel.trans hb6); clear hrow6 hb6))
            clear v0 v1 v2 v3 v4 v5 u0 u1 u2 u3 u4 u5
            go_roundw
            case rel => exact ⟨k + 1, r + 1, a6, c6, by omega, by go_num, rfl, Lib.hid ⟨by rw [HSN.out]; exact HR6.out, by rw [HSN.out, List.length_append, HJ4.out.len]; rfl, HB6.out⟩⟩
            case measure => simp [intOf]; omega
    · have hlti : ¬ (k : Int) < (l.length : Int) := by omega
      have HE := Lib.hid (show serN l k = serL l by unfold serL; rw [show l.length = k by omega])
      go_wp2
      go_ret
      exact ⟨_, rfl, by rw [← HE.out]; exact HJ.out.row, HJ.out.bel⟩

set_option maxHeartbeats 8000000 in
theorem rseries_is (a0 : Option Addr) (c0 : Nat) (l : List Pt) (w : World) (hS : Lst w w.heap.size a0 c0 l) (hl : l.length ≤ 900000) : Calls Tryd.prog 26 #[.slice a0 l.length c0] w (NDone (serL l) w) := by
  have HS := Lib.hid hS
  clear hS
  go_enter Tryd.func26, Tryd.ntmps26
  go_wp2
  go_loopw [3, 4] (fun s i wr => ∃ (k r : Nat) (a5 : Option Addr) (c5 : Nat), k ≤ l.length ∧ i = .int .i64 (k : Int) ∧ s = .slice a5 r c5 ∧ Hid (SJ w wr l k r (.slice a5 r c5))) (fun _ i _ => l.length - (intOf i).toNat)
  case atStart => exact ⟨0, 0, none, 0, by omega, rfl, rfl, Lib.hid ⟨NRow.nil _ _, rfl, Below.refl _ _⟩⟩
  case round =>
    obtain ⟨k, r, a5, c5, hk, rfl, rfl, HJ⟩ := hrel
    obtain ⟨w3, hw3⟩ : ∃ x, x = wr := ⟨_, rfl⟩
    subst hw3
    have hrk : r ≤ k := by rw [← HJ.out.len]; exact serN_len l k
    by_cases hlt : k < l.length
    · have hlti : (k : Int) < (l.length : Int) := by omega
      have hwk : IntKind.i64.wrap (k : Int) = (k : Int) := by rw [IntKind.wrap_i64]; omega
      rcases HS.out.pts.at_ with rfl | ⟨b, off, rfl, hbw, hc⟩
      · simp at hlt
      · have hA := (hc k hlt).below HJ.out.bel hbw
        have HNEW := Lib.hid (fun h => serN_new hlt h)
        obtain ⟨p, hp⟩ : ∃ p, l[k] = p := ⟨_, rfl⟩
        obtain ⟨ip, hip⟩ : ∃ ip, off + k * 6 = ip := ⟨_, rfl⟩
        rw [hp, hip] at hA
        have hal := (Below.refl w3.heap.size w3).alloc (Nat.le_refl _) (.cells #[.string p.s, .int .i64 p.t, .int .i64 p.v, .int .i64 p.st.c, .int .i64 p.st.s, .int .i64 p.st.q] 32)
        have HJ4 := Lib.hid (HJ.out.later hal)
        have HP4 := Lib.hid (PtAt.new w3 p)
        have HA4 := Lib.hid (hA.below hal hA.room)
        have HA3 := Lib.hid hA
        obtain ⟨x0, x1, x2, x3, x4, x5⟩ := hA
        by_cases h0 : k = 0
        · subst h0
          obtain rfl : off = ip := by simpa using hip
          have HSN := Lib.hid (show serN l (0 + 1) = serN l 0 ++ [p.s] by rw [HNEW.out (Or.inl rfl), hp])
          obtain ⟨jq, hjq⟩ : ∃ jq, jq = off := ⟨_, rfl⟩
          obtain ⟨q, hq⟩ : ∃ q, q = p := ⟨_, rfl⟩
          have H0 : PP w b off jq p q w3 := ⟨HA3.out, by rw [hjq, hq]; exact HA3.out, HJ.out.bel⟩
          clear hc hal hp hq hjq
          go_wp2_with fail
          refine wp_region_held_drew (S := (PP w b off jq p q)) (by kernel_rfl) H0.drew (fun hHeld => ?_)
          refine wpAnyH_take (i := 0) (oi := ?ra1o) (v := ?ra1v) ?ra1h (by kernel_rfl) (by kernel_rfl) (by kernel_rfl) ?ra1q ?ra1y hHeld ?ra1r
          case ra1h => (simp only [List.getElem?_toArray, List.getElem?_cons_zero]; rfl)
          case ra1q => exact fun _ _ _ h => h
          case ra1y => (refine Or.inl ⟨by first | kernel_rfl | rfl, ?_⟩; intro w hSw; (try dsimp only at hSw); obtain ⟨⟨c0, -, -, -, -, -⟩, ⟨d0, -, -, -, -, -⟩, -⟩ := hSw; go_simp <;> (try with_reducible rfl))
          try simp only [Act.put, List.setIfInBounds_toArray, List.set_cons_zero, List.set_cons_succ]
          refine wpAnyH_take (i := 1) (oi := ?ra2o) (v := ?ra2v) ?ra2h (by kernel_rfl) (by kernel_rfl) (by kernel_rfl) ?ra2q ?ra2y hHeld ?ra2r
          case ra2h => (simp only [List.getElem?_toArray, List.getElem?_cons_succ, List.getElem?_cons_zero]; rfl)
          case ra2q => exact fun _ _ _ h => h
          case ra2y => (refine Or.inl ⟨by first | kernel_rfl | rfl, ?_⟩; intro w hSw; (try dsimp only at hSw); obtain ⟨⟨c0, -, -, -, -, -⟩, ⟨d0, -, -, -, -, -⟩, -⟩ := hSw; go_simp <;> (try with_reducible rfl))
          try simp only [Act.put, List.setIfInBounds_toArray, List.set_cons_zero, List.set_cons_succ]
          refine wpAnyH_take (i := 2) (oi := ?ra3o) (v := ?ra3v) ?ra3h (by kernel_rfl) (by kernel_rfl) (by kernel_rfl) ?ra3q ?ra3y hHeld ?ra3r
          case ra3h => (simp only [List.getElem?_toArray, List.getElem?_cons_succ, List.getElem?_cons_zero]; rfl)
          case ra3q => exact fun _ _ _ h => h
          case ra3y => (refine Or.inl ⟨by first | kernel_rfl | rfl, ?_⟩; intro w hSw; (try dsimp only at hSw); obtain ⟨⟨c0, -, -, -, -, -⟩, ⟨d0, -, -, -, -, -⟩, -⟩ := hSw; go_simp <;> (try with_reducible rfl))
          try simp only [Act.put, List.setIfInBounds_toArray, List.set_cons_zero, List.set_cons_succ]
          refine wpAnyH_take (i := 3) (oi := ?ra4o) (v := undef) ?ra4h (by kernel_rfl) (by kernel_rfl) (by kernel_rfl) ?ra4q ?ra4y hHeld ?ra4r
          case ra4h => (simp only [List.getElem?_toArray, List.getElem?_cons_succ, List.getElem?_cons_zero]; rfl)
          case ra4q => exact fun _ _ _ h => h
          case ra4y => exact Or.inr ⟨by first | kernel_rfl | rfl, rfl⟩
          try simp only [Act.put, List.setIfInBounds_toArray, List.set_cons_zero, List.set_cons_succ]
          refine wpAnyH_take (i := 4) (oi := ?ra5o) (v := undef) ?ra5h (by kernel_rfl) (by kernel_rfl) (by kernel_rfl) ?ra5q ?ra5y hHeld ?ra5r
          case ra5h => (simp only [List.getElem?_toArray, List.getElem?_cons_succ, List.getElem?_cons_zero]; rfl)
          case ra5q => exact fun _ _ _ h => h
          case ra5y => exact Or.inr ⟨by first | kernel_rfl | rfl, rfl⟩
          try simp only [Act.put, List.setIfInBounds_toArray, List.set_cons_zero, List.set_cons_succ]
          refine wpAnyH_take (i := 5) (oi := ?ra6o) (v := undef) ?ra6h (by kernel_rfl) (by kernel_rfl) (by kernel_rfl) ?ra6q ?ra6y hHeld ?ra6r
          case ra6h => (simp only [List.getElem?_toArray, List.getElem?_cons_succ, List.getElem?_cons_zero]; rfl)
          case ra6q => exact fun _ _ _ h => h
          case ra6y => exact Or.inr ⟨by first | kernel_rfl | rfl, rfl⟩
          try simp only [Act.put, List.setIfInBounds_toArray, List.set_cons_zero, List.set_cons_succ]
          refine wpAnyH_take (i := 6) (oi := ?ra7o) (v := undef) ?ra7h (by kernel_rfl) (by kernel_rfl) (by kernel_rfl) ?ra7q ?ra7y hHeld ?ra7r
          case ra7h => (simp only [List.getElem?_toArray, List.getElem?_cons_succ, List.getElem?_cons_zero]; rfl)
          case ra7q => exact fun _ _ _ h => h
          case ra7y => exact Or.inr ⟨by first | kernel_rfl | rfl, rfl⟩
          try simp only [Act.put, List.setIfInBounds_toArray, List.set_cons_zero, List.set_cons_succ]
          refine wpAnyH_take (i := 7) (oi := ?ra8o) (v := undef) ?ra8h (by kernel_rfl) (by kernel_rfl) (by kernel_rfl) ?ra8q ?ra8y hHeld ?ra8r
          case ra8h => (simp only [List.getElem?_toArray, List.getElem?_cons_succ, List.getElem?_cons_zero]; rfl)
          case ra8q => exact fun _ _ _ h => h
          case ra8y => exact Or.inr ⟨by first | kernel_rfl | rfl, rfl⟩
          try simp only [Act.put, List.setIfInBounds_toArray, List.set_cons_zero, List.set_cons_succ]
          refine wpAnyH_take (i := 8) (oi := ?ra9o) (v := undef) ?ra9h (by kernel_rfl) (by kernel_rfl) (by kernel_rfl) ?ra9q ?ra9y hHeld ?ra9r
          case ra9h => (simp only [List.getElem?_toArray, List.getElem?_cons_succ, List.getElem?_cons_zero]; rfl)
          case ra9q => exact fun _ _ _ h => h
          case ra9y => exact Or.inr ⟨by first | kernel_rfl | rfl, rfl⟩
          try simp only [Act.put, List.setIfInBounds_toArray, List.set_cons_zero, List.set_cons_succ]
          refine wpAnyH_take (i := 9) (oi := ?ra10o) (v := undef) ?ra10h (by kernel_rfl) (by kernel_rfl) (by kernel_rfl) ?ra10q ?ra10y hHeld ?ra10r
          case ra10h => (simp only [List.getElem?_toArray, List.getElem?_cons_succ, List.getElem?_cons_zero]; rfl)
          case ra10q => exact fun _ _ _ h => h
          case ra10y => exact Or.inr ⟨by first | kernel_rfl | rfl, rfl⟩
          try simp only [Act.put, List.setIfInBounds_toArray, List.set_cons_zero, List.set_cons_succ]
          refine wpAnyH_take (i := 10) (oi := ?ra11o) (v := undef) ?ra11h (by kernel_rfl) (by kernel_rfl) (by kernel_rfl) ?ra11q ?ra11y hHeld ?ra11r
          case ra11h => (simp only [List.getElem?_toArray, List.getElem?_cons_succ, List.getElem?_cons_zero]; rfl)
          case ra11q => exact fun _ _ _ h => h
          case ra11y => exact Or.inr ⟨by first | kernel_rfl | rfl, rfl⟩
          try simp only [Act.put, List.setIfInBounds_toArray, List.set_cons_zero, List.set_cons_succ]
          refine wpAnyH_take (i := 11) (oi := ?ra12o) (v := undef) ?ra12h (by kernel_rfl) (by kernel_rfl) (by kernel_rfl) ?ra12q ?ra12y hHeld ?ra12r
          case ra12h => (simp only [List.getElem?_toArray, List.getElem?_cons_succ, List.getElem?_cons_zero]; rfl)
          case ra12q => exact fun _ _ _ h => h
          case ra12y => exact Or.inr ⟨by first | kernel_rfl | rfl, rfl⟩
          try simp only [Act.put, List.setIfInBounds_toArray, List.set_cons_zero, List.set_cons_succ]
          refine wpAnyH_take (i := 12) (oi := ?ra13o) (v := undef) ?ra13h (by kernel_rfl) (by kernel_rfl) (by kernel_rfl) ?ra13q ?ra13y hHeld ?ra13r
          case ra13h => (simp only [List.getElem?_toArray, List.getElem?_cons_succ, List.getElem?_cons_zero]; rfl)
          case ra13q => exact fun _ _ _ h => h
          case ra13y => exact Or.inr ⟨by first | kernel_rfl | rfl, rfl⟩
          try simp only [Act.put, List.setIfInBounds_toArray, List.set_cons_zero, List.set_cons_succ]
          refine wpAnyH_take (i := 13) (oi := ?ra14o) (v := undef) ?ra14h (by kernel_rfl) (by kernel_rfl) (by kernel_rfl) ?ra14q ?ra14y hHeld ?ra14r
          case ra14h => (simp only [List.getElem?_toArray, List.getElem?_cons_succ, List.getElem?_cons_zero]; rfl)
          case ra14q => exact fun _ _ _ h => h
          case ra14y => exact Or.inr ⟨by first | kernel_rfl | rfl, rfl⟩
          try simp only [Act.put, List.setIfInBounds_toArray, List.set_cons_zero, List.set_cons_succ]
          refine wpAnyH_take (i := 14) (oi := ?ra15o) (v := undef) ?ra15h (by kernel_rfl) (by kernel_rfl) (by kernel_rfl) ?ra15q ?ra15y hHeld ?ra15r
          case ra15h => (simp only [List.getElem?_toArray, List.getElem?_cons_succ, List.getElem?_cons_zero]; rfl)
          case ra15q => exact fun _ _ _ h => h
          case ra15y => exact Or.inr ⟨by first | kernel_rfl | rfl, rfl⟩
          try simp only [Act.put, List.setIfInBounds_toArray, List.set_cons_zero, List.set_cons_succ]
          refine wpAnyH_take (i := 15) (oi := ?ra16o) (v := ?ra16v) ?ra16h (by kernel_rfl) (by kernel_rfl) (by kernel_rfl) ?ra16q ?ra16y hHeld ?ra16r
          case ra16h => (simp only [List.getElem?_toArray, List.getElem?_cons_succ, List.getElem?_cons_zero]; rfl)
          case ra16q => exact fun _ _ _ h => h
          case ra16y => (refine Or.inl ⟨by first | kernel_rfl | rfl, ?_⟩; intro w hSw; (try dsimp only at hSw); obtain ⟨⟨c0, -, -, -, -, -⟩, ⟨d0, -, -, -, -, -⟩, -⟩ := hSw; go_simp <;> (try with_reducible rfl))
          try simp only [Act.put, List.setIfInBounds_toArray, List.set_cons_zero, List.set_cons_succ]
          refine wpAnyH_done (by kernel_rfl) ?_ _
          have HH := Lib.hid hHeld
          have hx9 := hHeld.x
          obtain ⟨v0, v1, v2, v3, v4, v5⟩ := hx9
          have HJD := Lib.hid (HJ.out.later ((Below.refl _ _).drew))
          clear hHeld
          go_wp2_with (at_builtin; refine wpList_appS (w := w3.drew) rfl _ _ rfl w.heap.size r (.slice a5 r c5) (serN l 0) p.s (w3.drew).heap.size rfl rfl rfl (Lib.hid HJD.out.len) HJD.out.row (by omega) HJD.out.bel.size ?_; intro a6 c6 w6 hrow6 _ hb6; have HR6 := Lib.hid hrow6.out; have HB6 := Lib.hid (HJD.out.bel.trans hb6); clear hrow6 hb6)
          clear v0 v1 v2 v3 v4 v5
          go_roundw
          case rel => exact ⟨1, r + 1, a6, c6, by omega, by go_num, rfl, Lib.hid ⟨by rw [HSN.out]; exact HR6.out, by rw [HSN.out, List.length_append, HJ4.out.len]; rfl, HB6.out⟩⟩
          case measure => simp [intOf]; omega
        · have hkn : 0 < k := by omega
          have hki : ((k : Int) == 0) = false := by rw [beq_eq_false_iff_ne]; omega
          have hkb : (k == 0) = false := by rw [beq_eq_false_iff_ne]; omega
          obtain ⟨m, hm⟩ : ∃ m, k = m + 1 := ⟨k - 1, by omega⟩
          have hmi : (k : Int) - 1 = (m : Int) := by omega
          have hml : (m : Int) < (l.length : Int) := by omega
          have hwm : IntKind.i64.wrap (m : Int) = (m : Int) := by rw [IntKind.wrap_i64]; omega
          have hmk : k - 1 = m := by omega
          have HOLD := Lib.hid (fun h => serN_old hlt h0 h)
          simp only [hmk] at HNEW HOLD
          obtain ⟨q, hq⟩ : ∃ q, l[m]'(by omega) = q := ⟨_, rfl⟩
          obtain ⟨jq, hjq⟩ : ∃ jq, off + m * 6 = jq := ⟨_, rfl⟩
          have hC := (hc m (by omega)).below HJ.out.bel hbw
          rw [hq, hjq] at hC
          rw [hp, hq] at HNEW HOLD
          have H0 : PP w b ip jq p q w3 := ⟨HA3.out, hC, HJ.out.bel⟩
          clear hc hal hp hq hC hmk hm
          by_cases heq : p.s = q.s
          · have hqq := seq_eq heq
            have hqn : (p.s.toList != q.s.toList) = false := by simp [bne, hqq]
            have HSN := Lib.hid (HOLD.out heq)
            clear heq HNEW HOLD h0
            go_wp2_with fail
            refine wp_region_held_drew (S := (PP w b ip jq p q)) (by kernel_rfl) H0.drew (fun hHeld => ?_)
            refine wpAnyH_take (i := 0) (oi := ?rb1o) (v := ?rb1v) ?rb1h (by kernel_rfl) (by kernel_rfl) (by kernel_rfl) ?rb1q ?rb1y hHeld ?rb1r
            case rb1h => (simp only [List.getElem?_toArray, List.getElem?_cons_zero]; rfl)
            case rb1q => exact fun _ _ _ h => h
            case rb1y => (refine Or.inl ⟨by first | kernel_rfl | rfl, ?_⟩; intro w hSw; (try dsimp only at hSw); obtain ⟨⟨c0, -, -, -, -, -⟩, ⟨d0, -, -, -, -, -⟩, -⟩ := hSw; go_simp <;> (try with_reducible rfl))
            try simp only [Act.put, List.setIfInBounds_toArray, List.set_cons_zero, List.set_cons_succ]
            refine wpAnyH_take (i := 1) (oi := ?rb2o) (v := ?rb2v) ?rb2h (by kernel_rfl) (by kernel_rfl) (by kernel_rfl) ?rb2q ?rb2y hHeld ?rb2r
            case rb2h => (simp only [List.getElem?_toArray, List.getElem?_cons_succ, List.getElem?_cons_zero]; rfl)
            case rb2q => exact fun _ _ _ h => h
            case rb2y => (refine Or.inl ⟨by first | kernel_rfl | rfl, ?_⟩; intro w hSw; (try dsimp only at hSw); obtain ⟨⟨c0, -, -, -, -, -⟩, ⟨d0, -, -, -, -, -⟩, -⟩ := hSw; go_simp <;> (try with_reducible rfl))
            try simp only [Act.put, List.setIfInBounds_toArray, List.set_cons_zero, List.set_cons_succ]
            refine wpAnyH_take (i := 2) (oi := ?rb3o) (v := ?rb3v) ?rb3h (by kernel_rfl) (by kernel_rfl) (by kernel_rfl) ?rb3q ?rb3y hHeld ?rb3r
            case rb3h => (simp only [List.getElem?_toArray, List.getElem?_cons_succ, List.getElem?_cons_zero]; rfl)
            case rb3q => exact fun _ _ _ h => h
            case rb3y => (refine Or.inl ⟨by first | kernel_rfl | rfl, ?_⟩; intro w hSw; (try dsimp only at hSw); obtain ⟨⟨c0, -, -, -, -, -⟩, ⟨d0, -, -, -, -, -⟩, -⟩ := hSw; go_simp <;> (try with_reducible rfl))
            try simp only [Act.put, List.setIfInBounds_toArray, List.set_cons_zero, List.set_cons_succ]
            refine wpAnyH_take (i := 3) (oi := ?rb4o) (v := ?rb4v) ?rb4h (by kernel_rfl) (by kernel_rfl) (by kernel_rfl) ?rb4q ?rb4y hHeld ?rb4r
            case rb4h => (simp only [List.getElem?_toArray, List.getElem?_cons_succ, List.getElem?_cons_zero]; rfl)
            case rb4q => exact fun _ _ _ h => h
            case rb4y => (refine Or.inl ⟨by first | kernel_rfl | rfl, ?_⟩; intro w hSw; (try dsimp only at hSw); obtain ⟨⟨c0, -, -, -, -, -⟩, ⟨d0, -, -, -, -, -⟩, -⟩ := hSw; go_simp <;> (try with_reducible rfl))
            try simp only [Act.put, List.setIfInBounds_toArray, List.set_cons_zero, List.set_cons_succ]
            refine wpAnyH_take (i := 4) (oi := ?rb5o) (v := ?rb5v) ?rb5h (by kernel_rfl) (by kernel_rfl) (by kernel_rfl) ?rb5q ?rb5y hHeld ?rb5r
            case rb5h => (simp only [List.getElem?_toArray, List.getElem?_cons_succ, List.getElem?_cons_zero]; rfl)
            case rb5q => exact fun _ _ _ h => h
            case rb5y => (refine Or.inl ⟨by first | kernel_rfl | rfl, ?_⟩; intro w hSw; (try dsimp only at hSw); obtain ⟨⟨c0, -, -, -, -, -⟩, ⟨d0, -, -, -, -, -⟩, -⟩ := hSw; go_simp <;> (try with_reducible rfl))
            try simp only [Act.put, List.setIfInBounds_toArray, List.set_cons_zero, List.set_cons_succ]
            refine wpAnyH_take (i := 5) (oi := ?rb6o) (v := ?rb6v) ?rb6h (by kernel_rfl) (by kernel_rfl) (by kernel_rfl) ?rb6q ?rb6y hHeld ?rb6r
            case rb6h => (simp only [List.getElem?_toArray, List.getElem?_cons_succ, List.getElem?_cons_zero]; rfl)
            case rb6q => exact fun _ _ _ h => h
            case rb6y => (refine Or.inl ⟨by first | kernel_rfl | rfl, ?_⟩; intro w hSw; (try dsimp only at hSw); obtain ⟨⟨c0, -, -, -, -, -⟩, ⟨d0, -, -, -, -, -⟩, -⟩ := hSw; go_simp <;> (try with_reducible rfl))
            try simp only [Act.put, List.setIfInBounds_toArray, List.set_cons_zero, List.set_cons_succ]
            refine wpAnyH_take (i := 6) (oi := ?rb7o) (v := ?rb7v) ?rb7h (by kernel_rfl) (by kernel_rfl) (by kernel_rfl) ?rb7q ?rb7y hHeld ?rb7r
            case rb7h => (simp only [List.getElem?_toArray, List.getElem?_cons_succ, List.getElem?_cons_zero]; rfl)
            case rb7q => exact fun _ _ _ h => h
            case rb7y => (refine Or.inl ⟨by first | kernel_rfl | rfl, ?_⟩; intro w hSw; (try dsimp only at hSw); obtain ⟨⟨c0, -, -, -, -, -⟩, ⟨d0, -, -, -, -, -⟩, -⟩ := hSw; go_simp <;> (try with_reducible rfl))
            try simp only [Act.put, List.setIfInBounds_toArray, List.set_cons_zero, List.set_cons_succ]
            refine wpAnyH_take (i := 7) (oi := ?rb8o) (v := ?rb8v) ?rb8h (by kernel_rfl) (by kernel_rfl) (by kernel_rfl) ?rb8q ?rb8y hHeld ?rb8r
            case rb8h => (simp only [List.getElem?_toArray, List.getElem?_cons_succ, List.getElem?_cons_zero]; rfl)
            case rb8q => exact fun _ _ _ h => h
            case rb8y => (refine Or.inl ⟨by first | kernel_rfl | rfl, ?_⟩; intro w hSw; (try dsimp only at hSw); obtain ⟨⟨c0, -, -, -, -, -⟩, ⟨d0, -, -, -, -, -⟩, -⟩ := hSw; go_simp <;> (try with_reducible rfl))
            try simp only [Act.put, List.setIfInBounds_toArray, List.set_cons_zero, List.set_cons_succ]
            refine wpAnyH_take (i := 8) (oi := ?rb9o) (v := ?rb9v) ?rb9h (by kernel_rfl) (by kernel_rfl) (by kernel_rfl) ?rb9q ?rb9y hHeld ?rb9r
            case rb9h => (simp only [List.getElem?_toArray, List.getElem?_cons_succ, List.getElem?_cons_zero]; rfl)
            case rb9q => exact fun _ _ _ h => h
            case rb9y => (refine Or.inl ⟨by first | kernel_rfl | rfl, ?_⟩; intro w hSw; (try dsimp only at hSw); obtain ⟨⟨c0, -, -, -, -, -⟩, ⟨d0, -, -, -, -, -⟩, -⟩ := hSw; go_simp <;> (try with_reducible rfl))
            try simp only [Act.put, List.setIfInBounds_toArray, List.set_cons_zero, List.set_cons_succ]
            refine wpAnyH_take (i := 9) (oi := ?rb10o) (v := ?rb10v) ?rb10h (by kernel_rfl) (by kernel_rfl) (by kernel_rfl) ?rb10q ?rb10y hHeld ?rb10r
            case rb10h => (simp only [List.getElem?_toArray, List.getElem?_cons_succ, List.getElem?_cons_zero]; rfl)
            case rb10q => exact fun _ _ _ h => h
            case rb10y => (refine Or.inl ⟨by first | kernel_rfl | rfl, ?_⟩; intro w hSw; (try dsimp only at hSw); obtain ⟨⟨c0, -, -, -, -, -⟩, ⟨d0, -, -, -, -, -⟩, -⟩ := hSw; go_simp <;> (try with_reducible rfl))
            try simp only [Act.put, List.setIfInBounds_toArray, List.set_cons_zero, List.set_cons_succ]
            refine wpAnyH_take (i := 10) (oi := ?rb11o) (v := ?rb11v) ?rb11h (by kernel_rfl) (by kernel_rfl) (by kernel_rfl) ?rb11q ?rb11y hHeld ?rb11r
            case rb11h => (simp only [List.getElem?_toArray, List.getElem?_cons_succ, List.getElem?_cons_zero]; rfl)
            case rb11q => exact fun _ _ _ h => h
            case rb11y => (refine Or.inl ⟨by first | kernel_rfl | rfl, ?_⟩; intro w hSw; (try dsimp only at hSw); obtain ⟨⟨c0, -, -, -, -, -⟩, ⟨d0, -, -, -, -, -⟩, -⟩ := hSw; go_simp <;> (try with_reducible rfl))
            try simp only [Act.put, List.setIfInBounds_toArray, List.set_cons_zero, List.set_cons_succ]
            refine wpAnyH_take (i := 11) (oi := ?rb12o) (v := ?rb12v) ?rb12h (by kernel_rfl) (by kernel_rfl) (by kernel_rfl) ?rb12q ?rb12y hHeld ?rb12r
            case rb12h => (simp only [List.getElem?_toArray, List.getElem?_cons_succ, List.getElem?_cons_zero]; rfl)
            case rb12q => exact fun _ _ _ h => h
            case rb12y => (refine Or.inl ⟨by first | kernel_rfl | rfl, ?_⟩; intro w hSw; (try dsimp only at hSw); obtain ⟨⟨c0, -, -, -, -, -⟩, ⟨d0, -, -, -, -, -⟩, -⟩ := hSw; go_simp <;> (try with_reducible rfl))
            try simp only [Act.put, List.setIfInBounds_toArray, List.set_cons_zero, List.set_cons_succ]
            refine wpAnyH_take (i := 12) (oi := ?rb13o) (v := ?rb13v) ?rb13h (by kernel_rfl) (by kernel_rfl) (by kernel_rfl) ?rb13q ?rb13y hHeld ?rb13r
            case rb13h => (simp only [List.getElem?_toArray, List.getElem?_cons_succ, List.getElem?_cons_zero]; rfl)
            case rb13q => exact fun _ _ _ h => h
            case rb13y => (refine Or.inl ⟨by first | kernel_rfl | rfl, ?_⟩; intro w hSw; (try dsimp only at hSw); obtain ⟨⟨c0, -, -, -, -, -⟩, ⟨d0, -, -, -, -, -⟩, -⟩ := hSw; go_simp <;> (try with_reducible rfl))
            try simp only [Act.put, List.setIfInBounds_toArray, List.set_cons_zero, List.set_cons_succ]
            refine wpAnyH_take (i := 13) (oi := ?rb14o) (v := ?rb14v) ?rb14h (by kernel_rfl) (by kernel_rfl) (by kernel_rfl) ?rb14q ?rb14y hHeld ?rb14r
            case rb14h => (simp only [List.getElem?_toArray, List.getElem?_cons_succ, List.getElem?_cons_zero]; rfl)
            case rb14q => exact fun _ _ _ h => h
            case rb14y => (refine Or.inl ⟨by first | kernel_rfl | rfl, ?_⟩; intro w hSw; (try dsimp only at hSw); obtain ⟨⟨c0, -, -, -, -, -⟩, ⟨d0, -, -, -, -, -⟩, -⟩ := hSw; go_simp <;> (try with_reducible rfl))
            try simp only [Act.put, List.setIfInBounds_toArray, List.set_cons_zero, List.set_cons_succ]
            refine wpAnyH_take (i := 14) (oi := ?rb15o) (v := ?rb15v) ?rb15h (by kernel_rfl) (by kernel_rfl) (by kernel_rfl) ?rb15q ?rb15y hHeld ?rb15r
            case rb15h => (simp only [List.getElem?_toArray, List.getElem?_cons_succ, List.getElem?_cons_zero]; rfl)
            case rb15q => exact fun _ _ _ h => h
            case rb15y => (refine Or.inl ⟨by first | kernel_rfl | rfl, ?_⟩; intro w hSw; (try dsimp only at hSw); obtain ⟨⟨c0, -, -, -, -, -⟩, ⟨d0, -, -, -, -, -⟩, -⟩ := hSw; go_simp <;> (try with_reducible rfl))
            try simp only [Act.put, List.setIfInBounds_toArray, List.set_cons_zero, List.set_cons_succ]
            refine wpAnyH_take (i := 15) (oi := ?rb16o) (v := ?rb16v) ?rb16h (by kernel_rfl) (by kernel_rfl) (by kernel_rfl) ?rb16q ?rb16y hHeld ?rb16r
            case rb16h => (simp only [List.getElem?_toArray, List.getElem?_cons_succ, List.getElem?_cons_zero]; rfl)
            case rb16q => exact fun _ _ _ h => h
            case rb16y => (refine Or.inl ⟨by first | kernel_rfl | rfl, ?_⟩; intro w hSw; (try dsimp only at hSw); obtain ⟨⟨c0, -, -, -, -, -⟩, ⟨d0, -, -, -, -, -⟩, -⟩ := hSw; go_simp <;> (try with_reducible rfl))
            try simp only [Act.put, List.setIfInBounds_toArray, List.set_cons_zero, List.set_cons_succ]
            refine wpAnyH_done (by kernel_rfl) ?_ _
            have HH := Lib.hid hHeld
            clear hHeld
            have HJD := Lib.hid (HJ.out.later ((Below.refl _ _).drew))
            go_wp2
            go_roundw
            case rel => exact ⟨k + 1, r, a5, c5, by omega, by go_num, rfl, Lib.hid ⟨by rw [HSN.out]; exact HJD.out.row, by rw [HSN.out]; exact HJD.out.len, HJD.out.bel⟩⟩
            case measure => simp [intOf]; omega
          · have hqq := seq_ne heq
            have hqn : (p.s.toList != q.s.toList) = true := by simp [bne, hqq]
            have HSN := Lib.hid (HNEW.out (Or.inr heq))
            clear heq HNEW HOLD h0
            go_wp2_with fail
            refine wp_region_held_drew (S := (PP w b ip jq p q)) (by kernel_rfl) H0.drew (fun hHeld => ?_)
            refine wpAnyH_take (i := 0) (oi := ?rc1o) (v := ?rc1v) ?rc1h (by kernel_rfl) (by kernel_rfl) (by kernel_rfl) ?rc1q ?rc1y hHeld ?rc1r
            case rc1h => (simp only [List.getElem?_toArray, List.getElem?_cons_zero]; rfl)
            case rc1q => exact fun _ _ _ h => h
            case rc1y => (refine Or.inl ⟨by first | kernel_rfl | rfl, ?_⟩; intro w hSw; (try dsimp only at hSw); obtain ⟨⟨c0, -, -, -, -, -⟩, ⟨d0, -, -, -, -, -⟩, -⟩ := hSw; go_simp <;> (try with_reducible rfl))
            try simp only [Act.put, List.setIfInBounds_toArray, List.set_cons_zero, List.set_cons_succ]
            refine wpAnyH_take (i := 1) (oi := ?rc2o) (v := ?rc2v) ?rc2h (by kernel_rfl) (by kernel_rfl) (by kernel_rfl) ?rc2q ?rc2y hHeld ?rc2r
            case rc2h => (simp only [List.getElem?_toArray, List.getElem?_cons_succ, List.getElem?_cons_zero]; rfl)
            case rc2q => exact fun _ _ _ h => h
            case rc2y => (refine Or.inl ⟨by first | kernel_rfl | rfl, ?_⟩; intro w hSw; (try dsimp only at hSw); obtain ⟨⟨c0, -, -, -, -, -⟩, ⟨d0, -, -, -, -, -⟩, -⟩ := hSw; go_simp <;> (try with_reducible rfl))
            try simp only [Act.put, List.setIfInBounds_toArray, List.set_cons_zero, List.set_cons_succ]
            refine wpAnyH_take (i := 2) (oi := ?rc3o) (v := ?rc3v) ?rc3h (by kernel_rfl) (by kernel_rfl) (by kernel_rfl) ?rc3q ?rc3y hHeld ?rc3r
            case rc3h => (simp only [List.getElem?_toArray, List.getElem?_cons_succ, List.getElem?_cons_zero]; rfl)
            case rc3q => exact fun _ _ _ h => h
            case rc3y => (refine Or.inl ⟨by first | kernel_rfl | rfl, ?_⟩; intro w hSw; (try dsimp only at hSw); obtain ⟨⟨c0, -, -, -, -, -⟩, ⟨d0, -, -, -, -, -⟩, -⟩ := hSw; go_simp <;> (try with_reducible rfl))
            try simp only [Act.put, List.setIfInBounds_toArray, List.set_cons_zero, List.set_cons_succ]
            refine wpAnyH_take (i := 3) (oi := ?rc4o) (v := ?rc4v) ?rc4h (by kernel_rfl) (by kernel_rfl) (by kernel_rfl) ?rc4q ?rc4y hHeld ?rc4r
            case rc4h => (simp only [List.getElem?_toArray, List.getElem?_cons_succ, List.getElem?_cons_zero]; rfl)
            case rc4q => exact fun _ _ _ h => h
            case rc4y => (refine Or.inl ⟨by first | kernel_rfl | rfl, ?_⟩; intro w hSw; (try dsimp only at hSw); obtain ⟨⟨c0, -, -, -, -, -⟩, ⟨d0, -, -, -, -, -⟩, -⟩ := hSw; go_simp <;> (try with_reducible rfl))
            try simp only [Act.put, List.setIfInBounds_toArray, List.set_cons_zero, List.set_cons_succ]
            refine wpAnyH_take (i := 4) (oi := ?rc5o) (v := ?rc5v) ?rc5h (by kernel_rfl) (by kernel_rfl) (by kernel_rfl) ?rc5q ?rc5y hHeld ?rc5r
            case rc5h => (simp only [List.getElem?_toArray, List.getElem?_cons_succ, List.getElem?_cons_zero]; rfl)
            case rc5q => exact fun _ _ _ h => h
            case rc5y => (refine Or.inl ⟨by first | kernel_rfl | rfl, ?_⟩; intro w hSw; (try dsimp only at hSw); obtain ⟨⟨c0, -, -, -, -, -⟩, ⟨d0, -, -, -, -, -⟩, -⟩ := hSw; go_simp <;> (try with_reducible rfl))
            try simp only [Act.put, List.setIfInBounds_toArray, List.set_cons_zero, List.set_cons_succ]
            refine wpAnyH_take (i := 5) (oi := ?rc6o) (v := ?rc6v) ?rc6h (by kernel_rfl) (by kernel_rfl) (by kernel_rfl) ?rc6q ?rc6y hHeld ?rc6r
            case rc6h => (simp only [List.getElem?_toArray, List.getElem?_cons_succ, List.getElem?_cons_zero]; rfl)
            case rc6q => exact fun _ _ _ h => h
            case rc6y => (refine Or.inl ⟨by first | kernel_rfl | rfl, ?_⟩; intro w hSw; (try dsimp only at hSw); obtain ⟨⟨c0, -, -, -, -, -⟩, ⟨d0, -, -, -, -, -⟩, -⟩ := hSw; go_simp <;> (try with_reducible rfl))
            try simp only [Act.put, List.setIfInBounds_toArray, List.set_cons_zero, List.set_cons_succ]
            refine wpAnyH_take (i := 6) (oi := ?rc7o) (v := ?rc7v) ?rc7h (by kernel_rfl) (by kernel_rfl) (by kernel_rfl) ?rc7q ?rc7y hHeld ?rc7r
            case rc7h => (simp only [List.getElem?_toArray, List.getElem?_cons_succ, List.getElem?_cons_zero]; rfl)
            case rc7q => exact fun _ _ _ h => h
            case rc7y => (refine Or.inl ⟨by first | kernel_rfl | rfl, ?_⟩; intro w hSw; (try dsimp only at hSw); obtain ⟨⟨c0, -, -, -, -, -⟩, ⟨d0, -, -, -, -, -⟩, -⟩ := hSw; go_simp <;> (try with_reducible rfl))
            try simp only [Act.put, List.setIfInBounds_toArray, List.set_cons_zero, List.set_cons_succ]
            refine wpAnyH_take (i := 7) (oi := ?rc8o) (v := ?rc8v) ?rc8h (by kernel_rfl) (by kernel_rfl) (by kernel_rfl) ?rc8q ?rc8y hHeld ?rc8r
            case rc8h => (simp only [List.getElem?_toArray, List.getElem?_cons_succ, List.getElem?_cons_zero]; rfl)
            case rc8q => exact fun _ _ _ h => h
            case rc8y => (refine Or.inl ⟨by first | kernel_rfl | rfl, ?_⟩; intro w hSw; (try dsimp only at hSw); obtain ⟨⟨c0, -, -, -, -, -⟩, ⟨d0, -, -, -, -, -⟩, -⟩ := hSw; go_simp <;> (try with_reducible rfl))
            try simp only [Act.put, List.setIfInBounds_toArray, List.set_cons_zero, List.set_cons_succ]
            refine wpAnyH_take (i := 8) (oi := ?rc9o) (v := ?rc9v) ?rc9h (by kernel_rfl) (by kernel_rfl) (by kernel_rfl) ?rc9q ?rc9y hHeld ?rc9r
            case rc9h => (simp only [List.getElem?_toArray, List.getElem?_cons_succ, List.getElem?_cons_zero]; rfl)
            case rc9q => exact fun _ _ _ h => h
            case rc9y => (refine Or.inl ⟨by first | kernel_rfl | rfl, ?_⟩; intro w hSw; (try dsimp only at hSw); obtain ⟨⟨c0, -, -, -, -, -⟩, ⟨d0, -, -, -, -, -⟩, -⟩ := hSw; go_simp <;> (try with_reducible rfl))
            try simp only [Act.put, List.setIfInBounds_toArray, List.set_cons_zero, List.set_cons_succ]
            refine wpAnyH_take (i := 9) (oi := ?rc10o) (v := ?rc10v) ?rc10h (by kernel_rfl) (by kernel_rfl) (by kernel_rfl) ?rc10q ?rc10y hHeld ?rc10r
            case rc10h => (simp only [List.getElem?_toArray, List.getElem?_cons_succ, List.getElem?_cons_zero]; rfl)
            case rc10q => exact fun _ _ _ h => h
            case rc10y => (refine Or.inl ⟨by first | kernel_rfl | rfl, ?_⟩; intro w hSw; (try dsimp only at hSw); obtain ⟨⟨c0, -, -, -, -, -⟩, ⟨d0, -, -, -, -, -⟩, -⟩ := hSw; go_simp <;> (try with_reducible rfl))
            try simp only [Act.put, List.setIfInBounds_toArray, List.set_cons_zero, List.set_cons_succ]
            refine wpAnyH_take (i := 10) (oi := ?rc11o) (v := ?rc11v) ?rc11h (by kernel_rfl) (by kernel_rfl) (by kernel_rfl) ?rc11q ?rc11y hHeld ?rc11r
            case rc11h => (simp only [List.getElem?_toArray, List.getElem?_cons_succ, List.getElem?_cons_zero]; rfl)
            case rc11q => exact fun _ _ _ h => h
            case rc11y => (refine Or.inl ⟨by first | kernel_rfl | rfl, ?_⟩; intro w hSw; (try dsimp only at hSw); obtain ⟨⟨c0, -, -, -, -, -⟩, ⟨d0, -, -, -, -, -⟩, -⟩ := hSw; go_simp <;> (try with_reducible rfl))
            try simp only [Act.put, List.setIfInBounds_toArray, List.set_cons_zero, List.set_cons_succ]
            refine wpAnyH_take (i := 11) (oi := ?rc12o) (v := ?rc12v) ?rc12h (by kernel_rfl) (by kernel_rfl) (by kernel_rfl) ?rc12q ?rc12y hHeld ?rc12r
            case rc12h => (simp only [List.getElem?_toArray, List.getElem?_cons_succ, List.getElem?_cons_zero]; rfl)
            case rc12q => exact fun _ _ _ h => h
            case rc12y => (refine Or.inl ⟨by first | kernel_rfl | rfl, ?_⟩; intro w hSw; (try dsimp only at hSw); obtain ⟨⟨c0, -, -, -, -, -⟩, ⟨d0, -, -, -, -, -⟩, -⟩ := hSw; go_simp <;> (try with_reducible rfl))
            try simp only [Act.put, List.setIfInBounds_toArray, List.set_cons_zero, List.set_cons_succ]
            refine wpAnyH_take (i := 12) (oi := ?rc13o) (v := ?rc13v) ?rc13h (by kernel_rfl) (by kernel_rfl) (by kernel_rfl) ?rc13q ?rc13y hHeld ?rc13r
            case rc13h => (simp only [List.getElem?_toArray, List.getElem?_cons_succ, List.getElem?_cons_zero]; rfl)
            case rc13q => exact fun _ _ _ h => h
            case rc13y => (refine Or.inl ⟨by first | kernel_rfl | rfl, ?_⟩; intro w hSw; (try dsimp only at hSw); obtain ⟨⟨c0, -, -, -, -, -⟩, ⟨d0, -, -, -, -, -⟩, -⟩ := hSw; go_simp <;> (try with_reducible rfl))
            try simp only [Act.put, List.setIfInBounds_toArray, List.set_cons_zero, List.set_cons_succ]
            refine wpAnyH_take (i := 13) (oi := ?rc14o) (v := ?rc14v) ?rc14h (by kernel_rfl) (by kernel_rfl) (by kernel_rfl) ?rc14q ?rc14y hHeld ?rc14r
            case rc14h => (simp only [List.getElem?_toArray, List.getElem?_cons_succ, List.getElem?_cons_zero]; rfl)
            case rc14q => exact fun _ _ _ h => h
            case rc14y => (refine Or.inl ⟨by first | kernel_rfl | rfl, ?_⟩; intro w hSw; (try dsimp only at hSw); obtain ⟨⟨c0, -, -, -, -, -⟩, ⟨d0, -, -, -, -, -⟩, -⟩ := hSw; go_simp <;> (try with_reducible rfl))
            try simp only [Act.put, List.setIfInBounds_toArray, List.set_cons_zero, List.set_cons_succ]
            refine wpAnyH_take (i := 14) (oi := ?rc15o) (v := ?rc15v) ?rc15h (by kernel_rfl) (by kernel_rfl) (by kernel_rfl) ?rc15q ?rc15y hHeld ?rc15r
            case rc15h => (simp only [List.getElem?_toArray, List.getElem?_cons_succ, List.getElem?_cons_zero]; rfl)
            case rc15q => exact fun _ _ _ h => h
            case rc15y => (refine Or.inl ⟨by first | kernel_rfl | rfl, ?_⟩; intro w hSw; (try dsimp only at hSw); obtain ⟨⟨c0, -, -, -, -, -⟩, ⟨d0, -, -, -, -, -⟩, -⟩ := hSw; go_simp <;> (try with_reducible rfl))
            try simp only [Act.put, List.setIfInBounds_toArray, List.set_cons_zero, List.set_cons_succ]
            refine wpAnyH_take (i := 15) (oi := ?rc16o) (v := ?rc16v) ?rc16h (by kernel_rfl) (by kernel_rfl) (by kernel_rfl) ?rc16q ?rc16y hHeld ?rc16r
            case rc16h => (simp only [List.getElem?_toArray, List.getElem?_cons_succ, List.getElem?_cons_zero]; rfl)
            case rc16q => exact fun _ _ _ h => h
            case rc16y => (refine Or.inl ⟨by first | kernel_rfl | rfl, ?_⟩; intro w hSw; (try dsimp only at hSw); obtain ⟨⟨c0, -, -, -, -, -⟩, ⟨d0, -, -, -, -, -⟩, -⟩ := hSw; go_simp <;> (try with_reducible rfl))
            try simp only [Act.put, List.setIfInBounds_toArray, List.set_cons_zero, List.set_cons_succ]
            refine wpAnyH_done (by kernel_rfl) ?_ _
            have HH := Lib.hid hHeld
            have hx9 := hHeld.x
            obtain ⟨v0, v1, v2, v3, v4, v5⟩ := hx9
            have HJD := Lib.hid (HJ.out.later ((Below.refl _ _).drew))
            clear hHeld
            go_wp2_with (at_builtin; refine wpList_appS (w := w3.drew) rfl _ _ rfl w.heap.size r (.slice a5 r c5) (serN l k) p.s (w3.drew).heap.size rfl rfl rfl (Lib.hid HJD.out.len) HJD.out.row (by omega) HJD.out.bel.size ?_; intro a6 c6 w6 hrow6 _ hb6; have HR6 := Lib.hid hrow6.out; have HB6 := Lib.hid (HJD.out.bel.trans hb6); clear hrow6 hb6)
            clear v0 v1 v2 v3 v4 v5
            go_roundw
            case rel => exact ⟨k + 1, r + 1, a6, c6, by omega, by go_num, rfl, Lib.hid ⟨by rw [HSN.out]; exact HR6.out, by rw [HSN.out, List.length_append, HJ4.out.len]; rfl, HB6.out⟩⟩
            case measure => simp [intOf]; omega
    · have hlti : ¬ (k : Int) < (l.length : Int) := by omega
      have HE := Lib.hid (show serN l k = serL l by unfold serL; rw [show l.length = k by omega])
      go_wp2
      go_ret
      exact ⟨_, rfl, by rw [← HE.out]; exact HJ.out.row, HJ.out.bel⟩
end Go.Proofs.YtkomfenjeoaelaaDoor
