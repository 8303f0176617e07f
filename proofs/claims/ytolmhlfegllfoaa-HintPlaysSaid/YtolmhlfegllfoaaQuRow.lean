/- Slices of numbers: such as may be read, such as the call has made; the document's Same, In and Nodes; the law's few. -/
import Derived.Test.YtolmhlfegllfoaaProg
import Derived.Outline
import Derived.Lib.Hide
import Derived.Lib.Walk
import Derived.WalkMore
import Derived.Deep.LoopGhost
import Derived.Maps.AppendAt
import Derived.Deep.AppendSrc
import Derived.Deep.Upon
import Derived.Deep.MidRow
import Derived.OwnWalk
import Derived.BigQuiet
import Derived.Lib.SmallJoins
set_option maxRecDepth 20000
set_option linter.unusedSimpArgs false
namespace Go.Proofs.Ytolmhlfegllfoaa.Qu
open Go.RowKit

theorem bel_next {w a b : World} (h : Below w.heap.size w a) (k : Below a.heap.size a b) : Below w.heap.size w b := h.trans (k.mono h.size)
theorem bel_new {w a : World} (h : Below w.heap.size w a) (o : Obj) : Below w.heap.size w (a.alloc o) := h.alloc h.size o
theorem ownsRow_slice {w : World} {base size n : Nat} {e : TypeId} {v : Value} {xs : List Value} (h : w.ownsRow base e size v n xs) : ∃ a c, v = .slice a n c := by
  rcases h.2 with ⟨h, h0⟩ | ⟨g, cap, cur, h, _⟩
  · exact ⟨_, _, by rw [h, h0]⟩
  · exact ⟨_, _, h⟩
theorem own_base {w : World} {B B' size n : Nat} {e : TypeId} {v : Value} {xs : List Value} (h : w.ownsRow B e size v n xs) (k : B' ≤ B) : w.ownsRow B' e size v n xs := by
  refine ⟨h.1, ?_⟩
  rcases h.2 with h1 | ⟨g, cap, cur, hv, hg, hh, hr⟩
  · exact Or.inl h1
  · exact Or.inr ⟨g, cap, cur, hv, Nat.le_trans k hg, hh, hr⟩
theorem info_parts {o : Option TypeInfo} {z : Value} {n m : Nat} (h : o.map (fun i => (i.zero, i.size, i.bytes)) = some (some z, n, m)) : ∃ i0, o = some i0 ∧ i0.zero = some z ∧ i0.size = n ∧ i0.bytes = m := by
  cases o with
  | none => cases h
  | some i => simp at h; exact ⟨i, rfl, h.1, h.2.1, h.2.2⟩
/-- v is a slice of the numbers l, all of them in blocks below B. -/
structure Nums (w : World) (B : Nat) (v : Value) (l : List Int) : Prop where
  shape : ∃ a cap, v = .slice a l.length cap ∧ (l = [] ∨ ∃ b off, a = some ⟨b, off, none⟩ ∧ b < B ∧ ∀ j (h : j < l.length), w.cell? ⟨b, off + j, none⟩ = some (.int .i64 l[j]))
  wide : ∀ n ∈ l, -9223372036854775808 ≤ n ∧ n ≤ 9223372036854775807
  size : l.length ≤ 9223372036854775807
  room : B ≤ w.heap.size
theorem Nums.slice {w : World} {B : Nat} {v : Value} {l : List Int} (h : Nums w B v l) : ∃ a cap, v = .slice a l.length cap := by
  obtain ⟨⟨a, cap, h1, _⟩, _⟩ := h; exact ⟨a, cap, h1⟩
theorem Nums.mono {w : World} {B B' : Nat} {v : Value} {l : List Int} (h : Nums w B v l) (hB : B ≤ B') (hw : B' ≤ w.heap.size) : Nums w B' v l := by
  obtain ⟨⟨a, cap, h1, h2⟩, h3, h4, _⟩ := h
  refine ⟨⟨a, cap, h1, ?_⟩, h3, h4, hw⟩
  rcases h2 with h | ⟨b, off, e, hb, hc⟩
  · exact Or.inl h
  · exact Or.inr ⟨b, off, e, by omega, hc⟩
theorem Nums.below {w w' : World} {B : Nat} {v : Value} {l : List Int} (h : Nums w B v l) (k : Below B w w') : Nums w' B v l := by
  obtain ⟨⟨a, cap, h1, h2⟩, h3, h4, h5⟩ := h
  refine ⟨⟨a, cap, h1, ?_⟩, h3, h4, Nat.le_trans h5 k.size⟩
  rcases h2 with h | ⟨b, off, e, hb, hc⟩
  · exact Or.inl h
  · exact Or.inr ⟨b, off, e, hb, fun j hj => (k.cell (p := ⟨b, off + j, none⟩) hb).trans (hc j hj)⟩
theorem Nums.nil (w : World) (a : Option Addr) (cap : Nat) : Nums w 0 (.slice a 0 cap) [] := ⟨⟨a, cap, rfl, Or.inl rfl⟩, fun n h => (by simp at h), by simp, Nat.zero_le _⟩
theorem Nums.next {w w' : World} {B : Nat} {v : Value} {l : List Int} (h : Nums w B v l) (k : Below w.heap.size w w') : Nums w' B v l := h.below (k.mono h.room)

theorem Nums.cell {w : World} {B : Nat} {a : Option Addr} {len cap : Nat} {l : List Int} (h : Nums w B (.slice a len cap) l) (h0 : 0 < l.length) : len = l.length ∧ ∃ b off, a = some ⟨b, off, none⟩ ∧ ∀ j (h : j < l.length), w.cell? ⟨b, off + j, none⟩ = some (.int .i64 l[j]) := by
  obtain ⟨⟨a', cap', h1, h2⟩, _⟩ := h
  injection h1 with e1 e2 e3
  subst e1 e2
  rcases h2 with rfl | ⟨b, off, h3, _, h4⟩
  · simp at h0
  · exact ⟨rfl, b, off, h3, h4⟩
theorem below_drewN {B : Nat} {a w : World} (h : Below B a w) (n : Nat) : Below B a (w.drewN n) := ⟨h.os, h.tape, h.output, h.size, h.block⟩
/-- v is a slice of the numbers l. -/
abbrev Ns (w : World) (v : Value) (l : List Int) : Prop := Nums w w.heap.size v l
theorem Ns.later {w w' : World} {v : Value} {l : List Int} (h : Ns w v l) (k : Below w.heap.size w w') : Ns w' v l := (Nums.below h k).mono k.size (Nat.le_refl _)
theorem infoI : (Try.prog.info? 3).map (fun i => (i.zero, i.size, i.bytes)) = some (some (.int .i64 0), 1, 8) := by kernel_rfl
theorem owns_later {w w' : World} {B size n : Nat} {e : TypeId} {v : Value} {xs : List Value} (h : w.ownsRow B e size v n xs) (k : Below w.heap.size w w') : w'.ownsRow B e size v n xs := by
  refine ⟨h.1, ?_⟩
  rcases h.2 with h1 | ⟨g, cap, cur, hv, hg, hh, hr⟩
  · exact Or.inl h1
  · exact Or.inr ⟨g, cap, cur, hv, hg, by rw [k.block g (Array.getElem?_eq_some_iff.1 hh).1]; exact hh, hr⟩
/-- v is a slice that the call has made above B, of the numbers xs. -/
def icell (n : Int) : Value := .int .i64 n
def IRow (w : World) (B : Nat) (v : Value) (xs : List Int) : Prop := w.ownsRow B 3 1 v xs.length (xs.map icell)
theorem IRow.slice {w : World} {B : Nat} {v : Value} {xs : List Int} (h : IRow w B v xs) : ∃ a c, v = .slice a xs.length c := ownsRow_slice h
theorem IRow.nil (w : World) (B : Nat) : IRow w B (.slice none 0 0) [] := World.ownsRow_nil _ _ _ _
theorem IRow.later {w w' : World} {B : Nat} {v : Value} {xs : List Int} (h : IRow w B v xs) (k : Below w.heap.size w w') : IRow w' B v xs := owns_later h k
theorem IRow.cell {w : World} {B : Nat} {a : Option Addr} {n c : Nat} {xs : List Int} (h : IRow w B (.slice a n c) xs) (h0 : 0 < xs.length) : ∃ g, a = some ⟨g, 0, none⟩ ∧ n = xs.length ∧ g < w.heap.size ∧ ∀ j (hj : j < xs.length), w.cell? ⟨g, j, none⟩ = some (.int .i64 xs[j]) := by
  have h1 := h
  rcases h.2 with ⟨hv, h2⟩ | ⟨g, cap, cur, hv, hg, hh, hn, hm, hs, ht⟩
  · omega
  · injection hv with e1 e2 e3
    subst e1 e2 e3
    have e1 := World.ownsRow.cellAt (show w.ownsRow B 3 1 _ xs.length (xs.map icell) from h1)
    refine ⟨g, rfl, rfl, (Array.getElem?_eq_some_iff.1 hh).1, fun j hj => ?_⟩
    rw [e1 j (by omega)]; simp [hj, icell]

/-- Slices of the call's own that lie in no one block. -/
def Apart (u v : Value) : Prop := u.ownBlock = none ∨ u.ownBlock ≠ v.ownBlock
theorem Apart.symm {u v : Value} (h : Apart u v) : Apart v u := by
  rcases h with h | h
  · cases e : v.ownBlock with
    | none => exact Or.inl e
    | some x => exact Or.inr (by rw [e, h]; simp)
  · exact Or.inr fun e => h e.symm
theorem Apart.nil (v : Value) : Apart (.slice none 0 0) v := Or.inl rfl
/-- A slice of the call's own has become v'. -/
structure Grew (w w' : World) (v v' : Value) : Prop where
  grown : w.grownBy w' v.ownBlock
  spot : v'.ownBlock = v.ownBlock ∨ ∃ q, v'.ownBlock = some q ∧ w.heap.size ≤ q
theorem Grew.keep {w w' : World} {v v' u : Value} (G : Grew w w' v v') {B size n : Nat} {e : TypeId} {xs : List Value} (h : w.ownsRow B e size u n xs) (hap : Apart u v) : w'.ownsRow B e size u n xs ∧ Apart u v' := by
  refine ⟨h.kept G.grown hap, ?_⟩
  rcases G.spot with e | ⟨q, e, hq⟩
  · rcases hap with h1 | h1
    · exact Or.inl h1
    · exact Or.inr (by rw [e]; exact h1)
  · cases e2 : u.ownBlock with
    | none => exact Or.inl e2
    | some p =>
      have := (h.lt p e2).2
      exact Or.inr (by rw [e, e2]; simp; omega)
theorem Grew.below {w w' : World} {v v' : Value} (G : Grew w w' v v') {B C size n : Nat} {e : TypeId} {xs : List Value} (h : w.ownsRow B e size v n xs) (hC : C ≤ B) (hw : C ≤ w.heap.size) : Below C w w' :=
  (Below.refl C w).grown G.grown hw fun q hq => Nat.le_trans hC (h.lt q hq).1
/-- One number appended to a slice of the call's own: for the walk. It lies in a block of its own. -/
theorem wpList_irow {w : World} {ops : Array Oper} {rest : List Oper} {o : Oper} {a : Act} {Q : Exit → Act → World → Prop} (hgd : o.guard = none) (sl x : Operand)
    (ho : o.op = .call { callee := .builtin .append, args := #[sl, x], argTypes := #[32, 32] })
    (B : Nat) (v : Value) (xs : List Int) (hs : a.eval sl = v) (y : Int) (hx : a.eval x = .slice (some ⟨w.heap.size, 0, none⟩) 1 1) (hown : IRow w B v xs) (hB : B ≤ w.heap.size) (hl : xs.length ≤ 1000000)
    (h : ∀ v' w', IRow w' B v' (xs ++ [y]) → Below B w w' → Grew w w' v v' → wpList Try.prog ops Q rest (a.put o.dst v') w') : wpList Try.prog ops Q (o :: rest) a (w.alloc (.cells #[.int .i64 y] 3)) := by
  obtain ⟨i0, hi, hz0, hz1, hz2⟩ := info_parts infoI
  have hr := hown.later ((Below.refl _ w).alloc (Nat.le_refl _) (.cells #[.int .i64 y] 3))
  refine wpList_append_own_at (w := w.alloc (.cells #[.int .i64 y] 3)) hgd sl x 32 ho B 3 i0 (.int .i64 0) 1 8 Try.underlying32 hi hz0 hz1 hz2 rfl (by decide) v xs.length (xs.map icell) hs hr ⟨w.heap.size, 0, none⟩ 1 1 [.int .i64 y] hx rfl ?_ ?_ (by unfold maxLen; omega) (by omega) (by simp; omega) ?_
  · intro j u hj
    match j, hj with
    | 0, hj => simp at hj; subst hj; simp [Addr.add]
  · intro u hu; simp at hu; subst hu; rfl
  · intro v' w' h2 h3 _ h4
    have G : Grew w w' v v' := ⟨(World.grownBy_alloc w _ _).trans h3, by
      rcases h4 with h4 | h4
      · exact Or.inl h4
      · exact Or.inr ⟨_, h4, by simp⟩⟩
    refine h v' w' ?_ (G.below hown (Nat.le_refl _) hB) G
    unfold IRow
    rw [List.length_append, List.map_append]
    exact h2


def sameL (a b : List Int) : Bool := decide (a = b)
theorem sameL_len {a b : List Int} (h : a.length ≠ b.length) : sameL a b = false := by
  unfold sameL; simp; intro e; exact h (by rw [e])
theorem sameL_no {a b : List Int} {k : Nat} (h1 : k < a.length) (h2 : k < b.length) (h : a[k] ≠ b[k]) : sameL a b = false := by
  unfold sameL; simp; rintro rfl; exact h rfl
theorem sameL_yes {a b : List Int} (hl : a.length = b.length) (h : ∀ j (h1 : j < a.length) (h2 : j < b.length), a[j] = b[j]) : sameL a b = true := by
  unfold sameL; simp; exact List.ext_getElem hl h
set_option maxHeartbeats 1000000 in
theorem rsame_is (v1 v2 : Value) (l1 l2 : List Int) (B1 B2 : Nat) (w : World) (h1 : Nums w B1 v1 l1) (h2 : Nums w B2 v2 l2) : Calls Try.prog 21 #[v1, v2] w fun e w' => e = .returned (.bool (sameL l1 l2)) ∧ Below w.heap.size w w' := by
  obtain ⟨z, hz⟩ : ∃ z, sameL l1 l2 = z := ⟨_, rfl⟩
  have HZ := Lib.hid hz
  rw [hz]
  clear hz
  obtain ⟨a1, cap1, rfl⟩ := h1.slice
  obtain ⟨a2, cap2, rfl⟩ := h2.slice
  have hr1 := h1.room
  have hr2 := h2.room
  have hs1 := h1.size
  have hs2 := h2.size
  have H1 := Lib.hid h1
  have H2 := Lib.hid h2
  clear h1 h2
  by_cases hlen : l1.length = l2.length
  · obtain ⟨n, hn⟩ : ∃ n, l2.length = n := ⟨_, rfl⟩
    have HN := Lib.hid hn
    have HN1 := Lib.hid (hlen.trans hn)
    rw [hlen.trans hn, hn]
    rw [hn] at hs2
    clear hlen hn hs1
    go_enter Try.func21, Try.ntmps21
    go_wp2
    go_loopw [5] (fun i wr => ∃ k : Nat, k ≤ n ∧ i = .int .i64 (k : Int) ∧ Below w.heap.size w wr ∧ ∀ j (h1 : j < l1.length) (h2 : j < l2.length), j < k → l1[j] = l2[j]) (fun i _ => n - (intOf i).toNat)
    case atStart => exact ⟨0, by omega, rfl, Below.refl _ _, fun j _ _ hj => absurd hj (Nat.not_lt_zero _)⟩
    case round =>
      obtain ⟨k, hk, rfl, hbel, hall⟩ := hrel
      have HALL := Lib.hid hall
      clear hall
      by_cases hkn : k < n
      · have hk2 : (k : Int) < (n : Int) := by omega
        have hkl1 : k < l1.length := by rw [HN1.out]; exact hkn
        have hkl2 : k < l2.length := by rw [HN.out]; exact hkn
        obtain ⟨-, b1, off1, rfl, g1⟩ := (H1.out.next hbel).cell (by omega)
        obtain ⟨-, b2, off2, rfl, g2⟩ := (H2.out.next hbel).cell (by omega)
        have c1 := g1 k hkl1
        have c2 := g2 k hkl2
        obtain ⟨x, hx⟩ : ∃ x, l1[k] = x := ⟨_, rfl⟩
        obtain ⟨y, hy⟩ : ∃ y, l2[k] = y := ⟨_, rfl⟩
        rw [hx] at c1
        rw [hy] at c2
        have HX := Lib.hid hx
        have HY := Lib.hid hy
        have HB := Lib.hid hbel
        clear g1 g2 hx hy hbel
        by_cases hxy : x = y
        · have hq : (x == y) = true := by simpa using hxy
          clear hkn
          go_wp2_with fail
          go_quiet (fail)
          go_wp2
          go_roundw
          case rel =>
            refine ⟨k + 1, by omega, by go_num, below_drewN HB.out _, fun j h1 h2 hj => ?_⟩
            by_cases e : j = k
            · subst e; rw [HX.out, HY.out]; exact hxy
            · exact HALL.out j h1 h2 (by omega)
          case measure => simp [intOf]; omega
        · have hq : (x == y) = false := by simpa using hxy
          have HNE := Lib.hid hxy
          clear hxy
          go_wp2_with fail
          go_quiet (fail)
          go_wp2
          go_ret
          exact ⟨by rw [← HZ.out, sameL_no (k := k) (by rw [HN1.out]; exact hkn) (by rw [HN.out]; exact hkn) (by rw [HX.out, HY.out]; exact HNE.out)]; rfl, below_drewN HB.out _⟩
      · obtain rfl : k = n := by omega
        have hk2 : ¬ (k : Int) < (k : Int) := by omega
        clear hkn
        go_wp2
        go_ret
        exact ⟨by rw [← HZ.out, sameL_yes (HN1.out.trans HN.out.symm) fun j h1 h2 => HALL.out j h1 h2 (by rw [← HN1.out]; exact h1)]; rfl, hbel⟩
  · have hl2 : ((l1.length : Int) == (l2.length : Int)) = false := by simp; omega
    have HL := Lib.hid (sameL_len hlen)
    clear hlen
    go_enter Try.func21, Try.ntmps21
    go_wp2
    go_ret
    exact ⟨by rw [← HZ.out, HL.out]; rfl, Below.refl _ _⟩

/-- At most twelve numbers of it. -/
def CutN (B : Nat) (l : List Int) (w : World) (e : Ending) (w' : World) : Prop := ∃ v', e = .returned v' ∧ Nums w B v' (l.take 12) ∧ w = w'
def inL (l : List Int) (x : Int) : Bool := decide (x ∈ l)
theorem inL_yes {l : List Int} {x : Int} {k : Nat} (h : k < l.length) (e : l[k] = x) : inL l x = true := by unfold inL; simp; rw [← e]; exact List.getElem_mem h
theorem inL_no {l : List Int} {x : Int} (h : ∀ j (hj : j < l.length), l[j] ≠ x) : inL l x = false := by
  unfold inL
  simp only [decide_eq_false_iff_not]
  intro hm
  obtain ⟨j, hj, e⟩ := List.getElem_of_mem hm
  exact h j hj e
def nodesK (l : List Int) (k : Nat) : List Int := ((List.range k).map (fun i : Nat => (i : Int))).filter (inL l)
def nodesL (l : List Int) : List Int := nodesK l 16
theorem nodesK_yes {l : List Int} {k : Nat} (h : inL l (k : Int) = true) : nodesK l (k + 1) = nodesK l k ++ [(k : Int)] := by
  unfold nodesK; rw [List.range_succ, List.map_append, List.filter_append]; simp [h]
theorem nodesK_no {l : List Int} {k : Nat} (h : inL l (k : Int) = false) : nodesK l (k + 1) = nodesK l k := by
  unfold nodesK; rw [List.range_succ, List.map_append, List.filter_append]; simp [h]
theorem nodesK_ok (l : List Int) (k : Nat) : (nodesK l k).length ≤ k ∧ ∀ n ∈ nodesK l k, 0 ≤ n ∧ n < (k : Int) := by
  refine ⟨?_, fun n hn => ?_⟩
  · unfold nodesK; exact Nat.le_trans (List.length_filter_le _ _) (by simp)
  · unfold nodesK at hn
    obtain ⟨h1, -⟩ := List.mem_filter.1 hn
    obtain ⟨i, hi, rfl⟩ := List.mem_map.1 h1
    have := List.mem_range.1 hi
    omega
def IDone (L : List Int) (w : World) (e : Ending) (w' : World) : Prop := ∃ v, e = .returned v ∧ IRow w' w.heap.size v L ∧ Below w.heap.size w w'
set_option maxHeartbeats 1000000 in
theorem rnodes_is (v : Value) (l : List Int) (w : World) (h : Ns w v l) : Calls Try.prog 27 #[v] w (IDone (nodesL l) w) := by
  obtain ⟨a, cap, rfl⟩ := h.slice
  have hsz := h.size
  have H := Lib.hid h
  obtain ⟨n, hn⟩ : ∃ n, l.length = n := ⟨_, rfl⟩
  rw [hn] at hsz ⊢
  have HN := Lib.hid hn
  clear h hn
  go_enter Try.func27, Try.ntmps27
  go_wp2
  go_loopg [3, 4] 16 (fun g out i wr => ∃ k : Nat, k + g = 16 ∧ i = .int .i64 (k : Int) ∧ IRow wr w.heap.size out (nodesK l k) ∧ Below w.heap.size w wr)
  case atStart => exact ⟨0, by omega, rfl, IRow.nil _ _, Below.refl _ _⟩
  case round =>
    obtain ⟨k, hk, rfl, hR, hB⟩ := hrel
    obtain ⟨w2, hw2⟩ : ∃ w2, w2 = wr := ⟨_, rfl⟩
    subst hw2
    obtain ⟨a3, d3, rfl⟩ := hR.slice
    have hlen1 := (nodesK_ok l k).1
    obtain ⟨m, hmm⟩ : ∃ m, (nodesK l k).length = m := ⟨_, rfl⟩
    rw [hmm] at hR hlen1 ⊢
    have HMM := Lib.hid hmm
    have HR := Lib.hid hR
    have HB := Lib.hid hB
    have HL := Lib.hid hlen1
    clear hR hmm hlen1
    cases gk with
    | zero =>
      obtain rfl : k = 16 := by omega
      clear hB hk
      go_wp2
      go_ret
      exact ⟨_, rfl, HR.out, HB.out⟩
    | succ g =>
      have hlt : (k : Int) < 16 := by omega
      have hHn := H.out.later hB
      have HH := Lib.hid hHn
      clear hB hHn
      go_wp2
      go_loopg [3, 5] n (fun g2 ov j wy => ∃ q : Nat, q + g2 = n ∧ ov = .slice a3 m d3 ∧ j = .int .i64 (q : Int) ∧ wy = w2 ∧ Hid (∀ t (ht : t < l.length), t < q → l[t] ≠ (k : Int)))
      case atStart => exact ⟨0, by omega, rfl, rfl, rfl, Lib.hid fun t _ ht => absurd ht (Nat.not_lt_zero _)⟩
      case round =>
        obtain ⟨q, hq, rfl, rfl, rfl, hall⟩ := hrel
        cases gk with
        | zero =>
          have hqn : ¬ (q : Int) < (n : Int) := by omega
          have HX := Lib.hid (nodesK_no (inL_no (l := l) (x := (k : Int)) fun t ht => hall.out t ht (by rw [HN.out] at ht; omega)))
          go_wp2
          go_roundg g
          case measure => omega
          case rel => exact ⟨k + 1, by omega, by go_num, by rw [HX.out]; exact HR.out, HB.out⟩
        | succ g2 =>
          have hqn : (q : Int) < (n : Int) := by omega
          have hql : q < l.length := by rw [HN.out]; omega
          obtain ⟨-, b, off, rfl, hc⟩ := HH.out.cell (by omega)
          have c1 := hc q hql
          obtain ⟨y, hy⟩ : ∃ y, l[q] = y := ⟨_, rfl⟩
          rw [hy] at c1
          have HY := Lib.hid hy
          clear hc hy
          by_cases hyk : y = (k : Int)
          · have hq2 : (y == (k : Int)) = true := by simpa using hyk
            have HX := Lib.hid (nodesK_yes (inL_yes (l := l) hql (HY.out.trans hyk)))
            have hB1 := HB.out.size
            have hr := HR.out
            have hl1 := HL.out
            clear hyk
            go_wp2_with (at_builtin; refine wpList_irow rfl _ _ rfl w.heap.size (.slice a3 m d3) (nodesK l k) rfl (k : Int) rfl hr hB1 (by rw [HMM.out]; omega) ?_)
            intro v4 w4 hr4 hb4 G4
            have HR4 := Lib.hid hr4
            have HB4 := Lib.hid (HB.out.trans hb4)
            clear hr4 hb4 G4 hr hl1 hB1
            go_wp2
            go_roundg g
            case measure => omega
            case rel => exact ⟨k + 1, by omega, by go_num, by rw [HX.out]; exact HR4.out, HB4.out⟩
          · have hq2 : (y == (k : Int)) = false := by simpa using hyk
            have HYK := Lib.hid hyk
            clear hyk
            go_wp2
            go_roundg g2
            case measure => omega
            case rel =>
              refine ⟨q + 1, by omega, rfl, by go_num, rfl, Lib.hid fun t ht h1 => ?_⟩
              by_cases e : t = q
              · subst e; rw [HY.out]; exact HYK.out
              · exact hall.out t ht (by omega)
end Go.Proofs.Ytolmhlfegllfoaa.Qu
