/- Slices of points: a list that is read, one that the call makes; append of a point, and of a list. -/
import Derived.Test.YtolmhlfegllfoaaSampleG
import Derived.Test.YtolmhlfegllfoaaBlockMath
import Derived.Maps.AppendAt
import Derived.Laws.AppendOwnNone
set_option maxRecDepth 20000
namespace Go.Proofs.Ytolmhlfegllfoaa
open Go.RowKit Go.Proofs.Ytolmhlfegllfoaa.Vi Go.Proofs.Ytolmhlfegllfoaa.Mk

/-- A slice of the points l that is read. -/
structure Lst (w : World) (B : Nat) (a : Option Addr) (c : Nat) (l : List Pt) : Prop where
  pts : Pts w B a l
  cap : l.length ≤ c
  no : a = none → c = 0
theorem Lst.below {w w' : World} {B c : Nat} {a : Option Addr} {l : List Pt} (h : Lst w B a c l) (k : Below B w w') : Lst w' B a c l := ⟨h.pts.below k, h.cap, h.no⟩
theorem Lst.mono {w : World} {B B' c : Nat} {a : Option Addr} {l : List Pt} (h : Lst w B a c l) (k : B ≤ B') : Lst w B' a c l := ⟨h.pts.mono k, h.cap, h.no⟩
theorem Lst.later {w w' : World} {c : Nat} {a : Option Addr} {l : List Pt} (h : Lst w w.heap.size a c l) (k : Below w.heap.size w w') : Lst w' w'.heap.size a c l := (h.below k).mono k.size
theorem PRow.upto {w : World} {B : Nat} {a : Option Addr} {n c : Nat} {xs : List Pt} (h : PRow w B (.slice a n c) xs) : xs.length = n ∧ xs.length ≤ c ∧ (a = none → c = 0) := by
  rcases h.2 with ⟨e, h0⟩ | ⟨g, cap, cur, e, _, _, hc, _⟩
  · injection e with e1 e2 e3
    subst e1 e2 e3
    exact ⟨h0, by omega, fun _ => rfl⟩
  · injection e with e1 e2 e3
    subst e1 e2 e3
    exact ⟨rfl, hc, fun k => by cases k⟩
theorem PRow.lst {w : World} {B : Nat} {a : Option Addr} {n c : Nat} {xs : List Pt} (h : PRow w B (.slice a n c) xs) : Lst w w.heap.size a c xs := ⟨h.pts, h.upto.2.1, h.upto.2.2⟩
theorem PRow.grown {w w' : World} {B : Nat} {v : Value} {xs : List Pt} {row : Option Nat} (h : PRow w B v xs) (k : w.grownBy w' row) (hr : v.ownBlock ≠ row ∨ row = none) : PRow w' B v xs := by
  obtain ⟨h1, h2⟩ := h
  refine ⟨h1, ?_⟩
  rcases h2 with h2 | ⟨g, cap, cur, e1, e2, e3, rest⟩
  · exact Or.inl h2
  · have hg : g < w.heap.size := (Array.getElem?_eq_some_iff.1 e3).1
    refine Or.inr ⟨g, cap, cur, e1, e2, (k.block g hg ?_).trans e3, rest⟩
    subst e1
    rcases hr with hr | hr
    · exact hr
    · rw [hr]; simp
theorem pt_add (b o j : Nat) : (⟨b, o, none⟩ : Addr).add j = ⟨b, o + j, none⟩ := by unfold Addr.add; split <;> simp_all
/-- The cells of points that are read, one behind the other. -/
theorem pts_cells {w : World} {b o : Nat} {l : List Pt} (h : ∀ j (h : j < l.length), PtO w b (o + j * 6) l[j]) : ∀ j u, (l.flatMap cells6)[j]? = some u → w.cell? ((⟨b, o, none⟩ : Addr).add j) = some u := by
  intro j u hj
  have hlt : j < (l.flatMap cells6).length := (List.getElem?_eq_some_iff.1 hj).1
  rw [flat6_len] at hlt
  have hi : j / 6 < l.length := by omega
  have e : j = j / 6 * 6 + j % 6 := by omega
  have hr : j % 6 < 6 := Nat.mod_lt _ (by decide)
  rw [pt_add]
  generalize j / 6 = i at *
  generalize j % 6 = r at *
  subst e
  rw [flat6_at l i hi r hr] at hj
  have hp := h i hi
  rw [← Nat.add_assoc]
  match r, hr with
  | 0, _ => simp [cells6] at hj; rw [← hj]; exact hp.c0
  | 1, _ => simp [cells6] at hj; rw [← hj]; exact hp.c1
  | 2, _ => simp [cells6] at hj; rw [← hj]; exact hp.c2
  | 3, _ => simp [cells6] at hj; rw [← hj]; exact hp.c3
  | 4, _ => simp [cells6] at hj; rw [← hj]; exact hp.c4
  | 5, _ => simp [cells6] at hj; rw [← hj]; exact hp.c5
theorem cells6_one {l : List Pt} {u : Value} (h : u ∈ l.flatMap cells6) : u.oneCell' = true := by
  obtain ⟨p, _, hu⟩ := List.mem_flatMap.1 h
  simp [cells6] at hu
  rcases hu with rfl | rfl | rfl | rfl | rfl | rfl <;> rfl
section
variable {ops : Array Oper} {rest : List Oper} {o : Oper} {a : Act} {w : World} {Q : Exit → Act → World → Prop}
abbrev PTT : TypeId := 36
/-- append(l, ys...), l the call's own. -/
theorem wpList_appN (hgd : o.guard = none) (d s : Operand)
    (ho : o.op = .call { callee := .builtin .append, args := #[d, s], argTypes := #[PTT, PTT] }) (B r : Nat) (v : Value) (xs ys : List Pt) (p : Option Addr) (m c N : Nat) (hd : a.eval d = v) (hs : a.eval s = .slice p m c) (hm : ys.length = m)
    (hr : Hid (xs.length = r)) (hR : PRow w B v xs) (hL : Lst w N p c ys) (hlen : r + m ≤ 1000000) (hB : B ≤ w.heap.size)
    (h : ∀ a' c' w', Hid (PRow w' B (.slice a' (r + m) c') (xs ++ ys)) → w.grownBy w' v.ownBlock → Below B w w' → ((Value.slice a' (r + m) c').ownBlock = v.ownBlock ∨ (Value.slice a' (r + m) c').ownBlock = some w.heap.size) → wpList Try.prog ops Q rest (a.put o.dst (.slice a' (r + m) c')) w') :
    wpList Try.prog ops Q (o :: rest) a w := by
  obtain ⟨i0, hi, hz0, hz1, hz2⟩ := info_parts infoP
  have hr := hr.out
  have hR2 : w.ownsRow B 31 6 v r (xs.flatMap cells6) := by have := hR; unfold PRow at this; rw [hr] at this; exact this
  have hne : ∀ q, v.ownBlock = some q → B ≤ q := fun q hq => (World.ownsRow.lt hR2 q hq).1
  have hl : (xs ++ ys).length = r + m := by rw [List.length_append, hr, hm]
  by_cases hp : p = none
  · subst hp
    have hc := hL.no rfl
    have hcap := hL.cap
    obtain rfl : m = 0 := by omega
    obtain rfl : c = 0 := by omega
    obtain rfl : ys = [] := List.eq_nil_of_length_eq_zero hm
    refine wpList_append_own_none hgd d s PTT ho B 31 i0 6 Try.underlying36 hi v r (xs.flatMap cells6) hd hR2 hs ?_
    obtain ⟨a', c', rfl⟩ := hR.slice
    rw [hr]
    rw [hr] at hR
    exact h a' c' w (by rw [List.append_nil]; exact hR) (World.grownBy.refl _ _) (Below.refl _ _) (Or.inl (by rw [Nat.add_zero, hr]))
  · obtain ⟨ad, rfl⟩ : ∃ ad, p = some ad := by cases p with | none => exact absurd rfl hp | some ad => exact ⟨ad, rfl⟩
    refine wpList_append_own_at (w := w) hgd d s PTT ho B 31 i0 (.agg #[.string ⟨#[]⟩, .int .i64 0, .int .i64 0, .int .i64 0, .int .i64 0, .int .i64 0]) 6 56 Try.underlying36 hi hz0 hz1 hz2 rfl (by decide) v r (xs.flatMap cells6) hd hR2 ad m c (ys.flatMap cells6) hs (by rw [flat6_len, hm]) ?_ (fun u hu => cells6_one hu) (by unfold maxLen; omega) (by omega) hB ?_
    · rcases hL.pts.at_ with rfl | ⟨b, off, e, hb, hc⟩
      · intro j u hj; simp at hj
      · injection e with e
        subst e
        exact pts_cells hc
    · intro v' w' hown hgrow _ hat
      have hR3 : PRow w' B v' (xs ++ ys) := by
        unfold PRow
        rw [hl, List.flatMap_append]
        exact hown
      obtain ⟨a', c', e⟩ := hR3.slice
      rw [hl] at e
      subst e
      exact h a' c' w' hR3 hgrow ((Below.refl B w).grown hgrow hB hne) hat
/-- append(l, y), y a composed point, l the call's own. -/
theorem wpList_appP (hgd : o.guard = none) (d s : Operand)
    (ho : o.op = .call { callee := .builtin .append, args := #[d, s], argTypes := #[PTT, PTT] }) (B r : Nat) (v : Value) (xs : List Pt) (y : Pt) (N : Nat) (hd : a.eval d = v) (hs : a.eval s = .slice (some ⟨N, 0, none⟩) 1 1) (hN : w.heap.size = N)
    (hr : Hid (xs.length = r)) (hR : PRow w B v xs) (hlen : r + 1 ≤ 1000000) (hB : B ≤ w.heap.size)
    (h : ∀ a' c' w', Hid (PRow w' B (.slice a' (r + 1) c') (xs ++ [y])) → w.grownBy w' v.ownBlock → Below B w w' → ((Value.slice a' (r + 1) c').ownBlock = v.ownBlock ∨ (Value.slice a' (r + 1) c').ownBlock = some (w.heap.size + 1)) → wpList Try.prog ops Q rest (a.put o.dst (.slice a' (r + 1) c')) w') :
    wpList Try.prog ops Q (o :: rest) a (w.alloc (.cells #[.string y.s, .int .i64 y.t, .int .i64 y.v, .int .i64 y.st.c, .int .i64 y.st.s, .int .i64 y.st.q] 31)) := by
  subst hN
  have hL : Lst (w.alloc (.cells #[.string y.s, .int .i64 y.t, .int .i64 y.v, .int .i64 y.st.c, .int .i64 y.st.s, .int .i64 y.st.q] 31)) (w.heap.size + 1) (some ⟨w.heap.size, 0, none⟩) 1 [y] := by
    refine ⟨⟨Or.inr ⟨w.heap.size, 0, rfl, by omega, fun j hj => ?_⟩⟩, by simp, fun k => by cases k⟩
    simp at hj
    subst hj
    constructor <;> simp [go_sem]
  have hrow : PRow (w.alloc (.cells #[.string y.s, .int .i64 y.t, .int .i64 y.v, .int .i64 y.st.c, .int .i64 y.st.s, .int .i64 y.st.q] 31)) B v xs := hR.later ((Below.refl _ _).alloc (Nat.le_refl _) _)
  refine wpList_appN hgd d s ho B r v xs [y] (some ⟨w.heap.size, 0, none⟩) 1 1 _ hd hs rfl hr hrow hL hlen (by simp; omega) fun a' c' w' h1 h2 h3 h4 => ?_
  exact h a' c' w' h1 (World.grownBy.trans (World.grownBy_alloc w _ _) h2) (((Below.refl B w).alloc hB _).trans h3) (by simpa using h4)
end
theorem Pts.drop {w : World} {b off : Nat} {l : List Pt} (h : ∀ j (h : j < l.length), PtO w b (off + j * 6) l[j]) (n : Nat) : ∀ j (h : j < (l.drop n).length), PtO w b (off + n * 6 + j * 6) (l.drop n)[j] := by
  intro j hj
  rw [List.length_drop] at hj
  rw [List.getElem_drop]
  have := h (n + j) (by omega)
  have e : off + n * 6 + j * 6 = off + (n + j) * 6 := by omega
  rw [e]; exact this
end Go.Proofs.Ytolmhlfegllfoaa
