/- Slices of points with nodes, the program's and the document's: rows of seven cells. -/
import Derived.Test.YtolmhlfegllfoaaHiAt
set_option maxRecDepth 20000
set_option linter.unusedSimpArgs false
set_option linter.unusedVariables false
namespace Go.Proofs.Ytolmhlfegllfoaa.Qu.Hi
open Go.RowKit Go.Proofs.Ytolmhlfegllfoaa.Vi Go.Proofs.Ytolmhlfegllfoaa.Mk

theorem flat7_len (l : List Hk) : (l.flatMap cells7).length = l.length * 7 := by
  induction l with
  | nil => rfl
  | cons a t ih =>
    have e : (a :: t).flatMap cells7 = cells7 a ++ t.flatMap cells7 := by simp
    rw [e, List.length_append, ih, List.length_cons]
    show 7 + t.length * 7 = _
    omega
theorem flat7_at (l : List Hk) : ∀ i (h : i < l.length) r, r < 7 → (l.flatMap cells7)[i * 7 + r]? = (cells7 l[i])[r]? := by
  induction l with
  | nil => intro i h; simp at h
  | cons a t ih =>
    intro i h r hr
    have e : (a :: t).flatMap cells7 = cells7 a ++ t.flatMap cells7 := by simp
    have hl : (cells7 a).length = 7 := rfl
    rw [e]
    cases i with
    | zero =>
      rw [List.getElem?_append_left (by omega)]
      simp
    | succ i =>
      rw [List.getElem?_append_right (by omega), hl]
      have e2 : (i + 1) * 7 + r - 7 = i * 7 + r := by omega
      rw [e2, ih i (by simpa using h) r hr]
      simp
/-- The seven cells of an entry in block g from o on. -/
structure K7O (w : World) (g o : Nat) (x : Hk) : Prop where
  c0 : w.cell? ⟨g, o, none⟩ = some (.string x.p.s)
  c1 : w.cell? ⟨g, o + 1, none⟩ = some (.int .i64 x.p.t)
  c2 : w.cell? ⟨g, o + 2, none⟩ = some (.int .i64 x.p.v)
  c3 : w.cell? ⟨g, o + 3, none⟩ = some (.int .i64 x.p.st.c)
  c4 : w.cell? ⟨g, o + 4, none⟩ = some (.int .i64 x.p.st.s)
  c5 : w.cell? ⟨g, o + 5, none⟩ = some (.int .i64 x.p.st.q)
  c6 : w.cell? ⟨g, o + 6, none⟩ = some (.int .i64 x.n)
theorem K7O.room {w : World} {g o : Nat} {x : Hk} (h : K7O w g o x) : g < w.heap.size := World.block_lt_of_cell? w _ h.c0
theorem K7O.other {w w' : World} {g o : Nat} {x : Hk} (h : K7O w g o x) (k : w'.heap[g]? = w.heap[g]?) : K7O w' g o x :=
  ⟨(World.cell?_of_block (w := w) k).trans h.c0, (World.cell?_of_block (w := w) k).trans h.c1, (World.cell?_of_block (w := w) k).trans h.c2, (World.cell?_of_block (w := w) k).trans h.c3, (World.cell?_of_block (w := w) k).trans h.c4, (World.cell?_of_block (w := w) k).trans h.c5, (World.cell?_of_block (w := w) k).trans h.c6⟩
theorem K7O.later {w w' : World} {g o : Nat} {x : Hk} (h : K7O w g o x) (k : Below w.heap.size w w') : K7O w' g o x := h.other (k.block _ h.room)
/-- A slice of entries that was made above B (T: the entries' type). -/
def HRow (T : TypeId) (w : World) (B : Nat) (v : Value) (xs : List Hk) : Prop := w.ownsRow B T 7 v xs.length (xs.flatMap cells7)
theorem HRow.slice {T : TypeId} {w : World} {B : Nat} {v : Value} {xs : List Hk} (h : HRow T w B v xs) : ∃ a c, v = .slice a xs.length c := ownsRow_slice h
theorem HRow.nil (T : TypeId) (w : World) (B : Nat) : HRow T w B (.slice none 0 0) [] := World.ownsRow_nil _ _ _ _
theorem HRow.later {T : TypeId} {w w' : World} {B : Nat} {v : Value} {xs : List Hk} (h : HRow T w B v xs) (k : Below w.heap.size w w') : HRow T w' B v xs := owns_later h k
theorem HRow.base {T : TypeId} {w : World} {B B' : Nat} {v : Value} {xs : List Hk} (h : HRow T w B v xs) (k : B' ≤ B) : HRow T w B' v xs := own_base h k
theorem HRow.other {T : TypeId} {w w' : World} {B : Nat} {v : Value} {xs : List Hk} (h : HRow T w B v xs) (k : ∀ (g : Nat) (cur : Array Value), w.heap[g]? = some (.cells cur T (0, 0)) → w'.heap[g]? = w.heap[g]?) : HRow T w' B v xs := by
  obtain ⟨h1, h2⟩ := h
  refine ⟨h1, ?_⟩
  rcases h2 with h2 | ⟨g, cap, cur, e1, e2, e3, rest⟩
  · exact Or.inl h2
  · exact Or.inr ⟨g, cap, cur, e1, e2, (k g cur e3).trans e3, rest⟩
theorem HRow.cell {T : TypeId} {w : World} {B : Nat} {a : Option Addr} {n c : Nat} {xs : List Hk} (h : HRow T w B (.slice a n c) xs) (h0 : 0 < xs.length) : ∃ g, a = some ⟨g, 0, none⟩ ∧ n = xs.length ∧ B ≤ g ∧ g < w.heap.size ∧ (∃ cur, w.heap[g]? = some (.cells cur T (0, 0))) ∧ ∀ j (hj : j < xs.length), K7O w g (j * 7) xs[j] := by
  have h1 := h
  rcases h.2 with ⟨hv, h2⟩ | ⟨g, cap, cur, hv, hg, hh, hn, hm, hs, ht⟩
  · omega
  · injection hv with e1 e2 e3
    subst e1 e2 e3
    have e1 := World.ownsRow.cellAt (show w.ownsRow B T 7 _ xs.length (xs.flatMap cells7) from h1)
    refine ⟨g, rfl, rfl, hg, (Array.getElem?_eq_some_iff.1 hh).1, ⟨_, hh⟩, fun j hj => ?_⟩
    refine ⟨?_, ?_, ?_, ?_, ?_, ?_, ?_⟩
    · have := flat7_at xs j hj 0 (by omega)
      rw [Nat.add_zero] at this
      rw [e1 _ (by omega), this]; rfl
    · rw [e1 _ (by omega), flat7_at xs j hj 1 (by omega)]; rfl
    · rw [e1 _ (by omega), flat7_at xs j hj 2 (by omega)]; rfl
    · rw [e1 _ (by omega), flat7_at xs j hj 3 (by omega)]; rfl
    · rw [e1 _ (by omega), flat7_at xs j hj 4 (by omega)]; rfl
    · rw [e1 _ (by omega), flat7_at xs j hj 5 (by omega)]; rfl
    · rw [e1 _ (by omega), flat7_at xs j hj 6 (by omega)]; rfl
theorem cells7_one {l : List Hk} {u : Value} (h : u ∈ l.flatMap cells7) : u.oneCell' = true := by
  obtain ⟨p, _, hu⟩ := List.mem_flatMap.1 h
  simp [cells7] at hu
  rcases hu with rfl | rfl | rfl | rfl | rfl | rfl | rfl <;> rfl
/-- What a type of slices of entries must say. -/
structure HTy (S T : TypeId) : Prop where
  und : Try.prog.underlying S = some (.slice T)
  inf : (Try.prog.info? T).map (fun i => (i.zero, i.size, i.bytes)) = some (some (.agg #[.string ⟨#[]⟩, .int .i64 0, .int .i64 0, .int .i64 0, .int .i64 0, .int .i64 0, .int .i64 0]), 7, 64)
theorem htyK : HTy 70 66 := ⟨Try.underlying70, by kernel_rfl⟩
theorem htyD : HTy 49 68 := ⟨Try.underlying49, by kernel_rfl⟩
/-- append(l, y), y a composed entry, l the call's own. -/
theorem wpList_appH {S T : TypeId} (hS : HTy S T) {ops : Array Oper} {rest : List Oper} {o : Oper} {a : Act} {w : World} {Q : Exit → Act → World → Prop} (hgd : o.guard = none) (d s : Operand)
    (ho : o.op = .call { callee := .builtin .append, args := #[d, s], argTypes := #[S, S] }) (B r : Nat) (v : Value) (xs : List Hk) (y : Hk) (N : Nat) (hd : a.eval d = v) (hs : a.eval s = .slice (some ⟨N, 0, none⟩) 1 1) (hN : w.heap.size = N)
    (hr : Hid (xs.length = r)) (hR : HRow T w B v xs) (hlen : r + 1 ≤ 1000000) (hB : B ≤ w.heap.size)
    (h : ∀ a' c' w', Hid (HRow T w' B (.slice a' (r + 1) c') (xs ++ [y])) → (w.alloc (.cells #[.string y.p.s, .int .i64 y.p.t, .int .i64 y.p.v, .int .i64 y.p.st.c, .int .i64 y.p.st.s, .int .i64 y.p.st.q, .int .i64 y.n] T)).grownBy w' v.ownBlock → Below B w w' → ((Value.slice a' (r + 1) c').ownBlock = v.ownBlock ∨ (Value.slice a' (r + 1) c').ownBlock = some (w.heap.size + 1)) → wpList Try.prog ops Q rest (a.put o.dst (.slice a' (r + 1) c')) w') :
    wpList Try.prog ops Q (o :: rest) a (w.alloc (.cells #[.string y.p.s, .int .i64 y.p.t, .int .i64 y.p.v, .int .i64 y.p.st.c, .int .i64 y.p.st.s, .int .i64 y.p.st.q, .int .i64 y.n] T)) := by
  subst hN
  obtain ⟨i0, hi, hz0, hz1, hz2⟩ := info_parts hS.inf
  have hr := hr.out
  have hR2 : w.ownsRow B T 7 v r (xs.flatMap cells7) := by have := hR; unfold HRow at this; rw [hr] at this; exact this
  have hne : ∀ q, v.ownBlock = some q → B ≤ q := fun q hq => (World.ownsRow.lt hR2 q hq).1
  have hl : (xs ++ [y]).length = r + 1 := by rw [List.length_append, hr]; rfl
  refine wpList_append_own_at (w := w.alloc (.cells #[.string y.p.s, .int .i64 y.p.t, .int .i64 y.p.v, .int .i64 y.p.st.c, .int .i64 y.p.st.s, .int .i64 y.p.st.q, .int .i64 y.n] T)) hgd d s S ho B T i0 (.agg #[.string ⟨#[]⟩, .int .i64 0, .int .i64 0, .int .i64 0, .int .i64 0, .int .i64 0, .int .i64 0]) 7 64 hS.und hi hz0 hz1 hz2 rfl (by decide) v r (xs.flatMap cells7) hd (hR2.alloc _) ⟨w.heap.size, 0, none⟩ 1 1 (cells7 y) hs (by simp [cells7]) ?_ (fun u hu => cells7_one (l := [y]) (by simpa using hu)) (by unfold maxLen; omega) (by omega) (by simp; omega) ?_
  · intro j u hj
    have hjl : j < 7 := by have := (List.getElem?_eq_some_iff.1 hj).1; simpa [cells7] using this
    match j, hjl with
    | 0, _ | 1, _ | 2, _ | 3, _ | 4, _ | 5, _ | 6, _ => simp [cells7] at hj; subst hj; simp [Addr.add]
  · intro v' w' hown hgrow _ hat
    have hR3 : HRow T w' B v' (xs ++ [y]) := by
      unfold HRow
      rw [hl, List.flatMap_append]
      simpa using hown
    obtain ⟨a', c', e⟩ := hR3.slice
    rw [hl] at e
    subst e
    exact h a' c' w' (Lib.hid hR3) hgrow (((Below.refl B w).alloc hB _).grown hgrow (by simp; omega) hne) (by simpa using hat)
def idxL (l : List Int) (x : Int) (z : Int) : Prop := (z = -1 ∧ ∀ j (hj : j < l.length), l[j] ≠ x) ∨ (∃ k : Nat, z = (k : Int) ∧ ∃ h : k < l.length, l[k] = x)
set_option maxHeartbeats 1000000 in
theorem index_is (v : Value) (l : List Int) (x : Int) (w : World) (h : Ns w v l) : Calls Try.prog 61 #[v, .int .i64 x] w fun e w' => ∃ z, e = .returned (.int .i64 z) ∧ idxL l x z ∧ w = w' := by
  obtain ⟨a, cap, rfl⟩ := h.slice
  have hsz := h.size
  have H := Lib.hid h
  obtain ⟨n, hn⟩ : ∃ n, l.length = n := ⟨_, rfl⟩
  rw [hn] at hsz ⊢
  have HN := Lib.hid hn
  clear h hn
  go_enter Try.func61, Try.ntmps61
  go_wp2
  go_loopw [8] (fun i wr => ∃ k : Nat, k ≤ n ∧ i = .int .i64 (k : Int) ∧ wr = w ∧ ∀ j (hj : j < l.length), j < k → l[j] ≠ x) (fun i _ => n - (intOf i).toNat)
  case atStart => exact ⟨0, by omega, rfl, rfl, fun j _ hj => absurd hj (Nat.not_lt_zero _)⟩
  case round =>
    obtain ⟨k, hk, rfl, rfl, hall⟩ := hrel
    have HALL := Lib.hid hall
    clear hall
    by_cases hkn : k < n
    · have hk2 : (k : Int) < (n : Int) := by omega
      have hkl : k < l.length := by rw [HN.out]; exact hkn
      obtain ⟨-, b, off, rfl, g⟩ := H.out.cell (by omega)
      have c1 := g k hkl
      obtain ⟨y, hy⟩ : ∃ y, l[k] = y := ⟨_, rfl⟩
      rw [hy] at c1
      have HY := Lib.hid hy
      clear g hy
      by_cases hxy : x = y
      · have hq : (x == y) = true := by simpa using hxy
        have HXY := Lib.hid hxy
        clear hxy hkn
        go_wp2
        go_ret
        exact ⟨_, rfl, Or.inr ⟨k, rfl, hkl, HY.out.trans HXY.out.symm⟩, rfl⟩
      · have hq : (x == y) = false := by simpa using hxy
        have HXY := Lib.hid hxy
        clear hxy hkn
        go_wp2
        go_roundw
        case rel =>
          refine ⟨k + 1, by omega, by go_num, trivial, fun j hj h1 => ?_⟩
          by_cases e : j = k
          · subst e; rw [HY.out]; exact fun e => HXY.out e.symm
          · exact HALL.out j hj (by omega)
        case measure => simp [intOf]; omega
    · obtain rfl : k = n := by omega
      have hk2 : ¬ (k : Int) < (k : Int) := by omega
      clear hkn
      go_wp2
      go_ret
      exact ⟨_, rfl, Or.inl ⟨rfl, fun j hj => HALL.out j hj (by rw [← HN.out]; exact hj)⟩, rfl⟩
theorem contains_is (v : Value) (l : List Int) (x : Int) (w : World) (h : Ns w v l) : Calls Try.prog 48 #[v, .int .i64 x] w fun e w' => e = .returned (.bool (inL l x)) ∧ w = w' := by
  have k := index_is v l x w h
  obtain ⟨a, cap, rfl⟩ := h.slice
  go_enter Try.func48, Try.ntmps48
  go_wp2_with (go_at_call 61; (with_reducible refine k.mono ?_); rintro e w1 ⟨z, rfl, hz, rfl⟩; have HZ := Lib.hid hz; clear hz)
  go_ret
  refine ⟨?_, rfl⟩
  rcases HZ.out with ⟨rfl, h2⟩ | ⟨j, rfl, h1, h2⟩
  · rw [inL_no h2]; rfl
  · rw [inL_yes h1 h2]
    simp
end Go.Proofs.Ytolmhlfegllfoaa.Qu.Hi
