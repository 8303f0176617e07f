/- Joined: VintArgs, MarkAt, MarkVec, MarkVecs, MarkTell, MarkTake, MarkNs, MarkStamps, MarkArgs. -/
import Derived.Test.YtolmhlfegllfoaaVintA
import Derived.SliceStrings
import Derived.ChangeSlices
import Derived.Deep.DeepHandedRow
import Derived.Test.YtolmhlfegllfoaaVintB
import Derived.Test.YtolmhlfegllfoaaMarkA
import Derived.WalkSmall
import Derived.Deep.Slices
import Derived.Lib.SmallJoins
import Derived.OpenShut
/- Slices of numbers and of texts that came in. -/
namespace Go.Proofs.Ytolmhlfegllfoaa
open Go.RowKit

/-- A slice of numbers that came in: empty, or each of its cells holds a number. -/
def ArgInts (w : World) (a : Option Addr) (len cap : Nat) : Prop :=
  len = 0 ∨ ∃ (b off : Nat) (l : List Int), a = some ⟨b, off, none⟩ ∧ l.length = len ∧ len ≤ cap ∧ cap ≤ maxLen ∧ (∀ j (h : j < l.length), w.cell? ⟨b, off + j, none⟩ = some (.int .i64 l[j])) ∧ ∀ n ∈ l, -9223372036854775808 ≤ n ∧ n ≤ 9223372036854775807
/-- A slice of texts that came in. -/
def ArgStrs (w : World) (a : Option Addr) (len cap : Nat) : Prop :=
  len = 0 ∨ ∃ (b off : Nat) (l : List ByteArray), a = some ⟨b, off, none⟩ ∧ l.length = len ∧ len ≤ cap ∧ cap ≤ maxLen ∧ (∀ j (h : j < l.length), w.cell? ⟨b, off + j, none⟩ = some (.string l[j])) ∧ ∀ s ∈ l, s.size ≤ maxLen

theorem argInts_of {H : Type} {enc : TypeId × Value → H} {w : World} {base fuel : Nat} {sp : Nat → Bool} {hd : Bool} {a : Option Addr} {len cap : Nat} {t e : TypeId} {x : DataW H × List MemPlace}
    (ht : Try.prog.underlying t = some (.slice e)) (he : Try.prog.underlying e = some (.int .i64)) (hc : Try.prog.cellsOf e = 1)
    (h : DataW.trod enc Try.prog w base sp hd fuel t [.slice a len cap] = some x) : ArgInts w a len cap := by
  rcases Go.ChangeShapes.open_ints ht he hc h with ⟨hcs, _⟩ | ⟨y, l, c, zs, hcs, _, hl, hm, hz, _, hcell, hwf⟩
  · simp at hcs
    exact Or.inl hcs.2.1
  · simp at hcs
    obtain ⟨rfl, rfl, rfl⟩ := hcs
    by_cases h0 : len = 0
    · exact Or.inl h0
    · have hlen : len ≤ zs.length := by rw [hz]; split <;> omega
      obtain ⟨b, off, spot⟩ := y
      have hc := hcell 0 (by omega)
      have hspot : spot = none := by simpa [Addr.add] using World.cell?_spot hc
      subst hspot
      have hp : ∀ j, (⟨b, off, none⟩ : Addr).add j = ⟨b, off + j, none⟩ := fun j => by unfold Addr.add; split <;> simp_all
      refine Or.inr ⟨b, off, zs.take len, rfl, by rw [List.length_take]; omega, hl, hm, fun j hj => ?_, fun n hn => ?_⟩
      · rw [List.length_take] at hj
        rw [← hp, hcell j (by omega), List.getElem_take, List.getD_eq_getElem?_getD, List.getElem?_eq_getElem (by omega)]; rfl
      · have := bounds_i64 (hwf n (List.mem_of_mem_take hn))
        omega
theorem argStrs_of {H : Type} {enc : TypeId × Value → H} {w : World} {base fuel : Nat} {sp : Nat → Bool} {hd : Bool} {a : Option Addr} {len cap : Nat} {t e : TypeId} {x : DataW H × List MemPlace}
    (ht : Try.prog.underlying t = some (.slice e)) (he : Try.prog.underlying e = some .string) (hc : Try.prog.cellsOf e = 1)
    (h : DataW.trod enc Try.prog w base sp hd fuel t [.slice a len cap] = some x) : ArgStrs w a len cap := by
  rcases Go.ChangeShapes.open_strings ht he hc h with ⟨hcs, _⟩ | ⟨y, l, c, zs, hcs, _, hl, hm, hz, _, hcell, hwf⟩
  · simp at hcs
    exact Or.inl hcs.2.1
  · simp at hcs
    obtain ⟨rfl, rfl, rfl⟩ := hcs
    by_cases h0 : len = 0
    · exact Or.inl h0
    · have hlen : len ≤ zs.length := by rw [hz]; split <;> omega
      obtain ⟨b, off, spot⟩ := y
      have hc := hcell 0 (by omega)
      have hspot : spot = none := by simpa [Addr.add] using World.cell?_spot hc
      subst hspot
      have hp : ∀ j, (⟨b, off, none⟩ : Addr).add j = ⟨b, off + j, none⟩ := fun j => by unfold Addr.add; split <;> simp_all
      refine Or.inr ⟨b, off, zs.take len, rfl, by rw [List.length_take]; omega, hl, hm, fun j hj => ?_, fun s hs => hwf s (List.mem_of_mem_take hs)⟩
      rw [List.length_take] at hj
      rw [← hp, hcell j (by omega), List.getElem_take, List.getD_eq_getElem?_getD, List.getElem?_eq_getElem (by omega)]; rfl
end Go.Proofs.Ytolmhlfegllfoaa

/- Slices of numbers, and contracts of package mark's At, bounded, Covers, Compare. -/
namespace Go.Proofs.Ytolmhlfegllfoaa
open Go.RowKit Go.Proofs.Ytolmhlfegllfoaa.Vi Go.Proofs.Ytolmhlfegllfoaa.Mk

/-- v is a slice of the numbers l, all of them in blocks below B. -/
structure Nums (w : World) (B : Nat) (v : Value) (l : List Int) : Prop where
  shape : ∃ a cap, v = .slice a l.length cap ∧ (l = [] ∨ ∃ b off, a = some ⟨b, off, none⟩ ∧ b < B ∧ ∀ j (h : j < l.length), w.cell? ⟨b, off + j, none⟩ = some (.int .i64 l[j]))
  wide : ∀ n ∈ l, -9223372036854775808 ≤ n ∧ n ≤ 9223372036854775807
  size : l.length ≤ 9223372036854775807
  room : B ≤ w.heap.size
theorem Nums.slice {w : World} {B : Nat} {v : Value} {l : List Int} (h : Nums w B v l) : ∃ a cap, v = .slice a l.length cap := by
  obtain ⟨⟨a, cap, h1, _⟩, _⟩ := h; exact ⟨a, cap, h1⟩
theorem Nums.mono {w : World} {B B' : Nat} {v : Value} {l : List Int} (h : Nums w B v l) (hB : B ≤ B') (hw : B' ≤ w.heap.size) : Nums w B' v l := by
  obtain ⟨⟨a, cap, h1, h2⟩, h3, h4, _⟩ := h
  refine ⟨⟨a, cap, h1, ?_⟩, h3, h4, hw⟩
  rcases h2 with h | ⟨b, off, e, hb, hc⟩
  · exact Or.inl h
  · exact Or.inr ⟨b, off, e, by omega, hc⟩
theorem Nums.below {w w' : World} {B : Nat} {v : Value} {l : List Int} (h : Nums w B v l) (k : Below B w w') : Nums w' B v l := by
  obtain ⟨⟨a, cap, h1, h2⟩, h3, h4, h5⟩ := h
  refine ⟨⟨a, cap, h1, ?_⟩, h3, h4, Nat.le_trans h5 k.size⟩
  rcases h2 with h | ⟨b, off, e, hb, hc⟩
  · exact Or.inl h
  · exact Or.inr ⟨b, off, e, hb, fun j hj => (k.cell (p := ⟨b, off + j, none⟩) hb).trans (hc j hj)⟩
theorem Nums.nil (w : World) (a : Option Addr) (cap : Nat) : Nums w 0 (.slice a 0 cap) [] := ⟨⟨a, cap, rfl, Or.inl rfl⟩, fun n h => (by simp at h), by simp, Nat.zero_le _⟩
theorem Nums.next {w w' : World} {B : Nat} {v : Value} {l : List Int} (h : Nums w B v l) (k : Below w.heap.size w w') : Nums w' B v l := h.below (k.mono h.room)

end Go.Proofs.Ytolmhlfegllfoaa

/- Contracts of package mark's vector, one for each closure that it is handed. -/
namespace Go.Proofs.Ytolmhlfegllfoaa
open Go.RowKit Go.Proofs.Ytolmhlfegllfoaa.Vi Go.Proofs.Ytolmhlfegllfoaa.Mk

/-- Block b has eight cells that may be written, and the first k of them hold g. -/
structure Eight (w : World) (b : Nat) (g : Nat → Int) (k : Nat) : Prop where
  cells : ∀ j, j < 8 → ∃ v, w.cell? ⟨b, j, none⟩ = some v ∧ (j < k → v = .int .i64 (g j))
  free : ∀ j, j < 8 → w.frozen? ⟨b, j, none⟩ = false
theorem Eight.room {w : World} {b k : Nat} {g : Nat → Int} (h : Eight w b g k) : b < w.heap.size := by
  obtain ⟨v, hv, _⟩ := h.cells 0 (by omega)
  exact World.block_lt_of_cell? w _ hv
theorem Eight.but {w w' : World} {b d k : Nat} {g : Nat → Int} (h : Eight w b g k) (hB : But d w w') (hd : b ≠ d) : Eight w' b g k :=
  ⟨fun j hj => by rw [hB.cell (p := ⟨b, j, none⟩) hd h.room]; exact h.cells j hj, fun j hj => by rw [hB.frozen (p := ⟨b, j, none⟩) hd h.room]; exact h.free j hj⟩
theorem Eight.step {w : World} {b k : Nat} {g : Nat → Int} (h : Eight w b g k) (_hk : k < 8) : Eight (w.setCell ⟨b, k, none⟩ (.int .i64 (g k))) b g (k + 1) := by
  refine ⟨fun j hj => ?_, fun j hj => by simp [go_sem, h.free j hj]⟩
  obtain ⟨v, hv, hg⟩ := h.cells j hj
  by_cases e : j = k
  · subst e
    exact ⟨_, World.cell?_setCell_same _ _ _ hv, fun _ => rfl⟩
  · refine ⟨v, ?_, fun hl => hg (by omega)⟩
    rw [World.cell?_setCell_other]
    · exact hv
    · intro e2; exact e (congrArg Addr.off e2).symm
theorem Eight.get {w : World} {b k : Nat} {g : Nat → Int} (h : Eight w b g k) (j : Nat) (hj : j < 8) (hk : j < k) : w.cell? ⟨b, j, none⟩ = some (.int .i64 (g j)) := by
  obtain ⟨v, hv, hg⟩ := h.cells j hj
  rw [hv, hg hk]
theorem Eight.new (w : World) (g : Nat → Int) (T : TypeId) : Eight (w.alloc (.cells #[.int .i64 0, .int .i64 0, .int .i64 0, .int .i64 0, .int .i64 0, .int .i64 0, .int .i64 0, .int .i64 0] T)) w.heap.size g 0 := by
  refine ⟨fun j hj => ⟨.int .i64 0, ?_, fun h => absurd h (Nat.not_lt_zero _)⟩, fun j _ => by simp [go_sem]⟩
  match j, hj with
  | 0, _ | 1, _ | 2, _ | 3, _ | 4, _ | 5, _ | 6, _ | 7, _ => simp [go_sem]
theorem But.self (w : World) (b : Nat) (o : Nat) (v : Value) : But b w (w.setCell ⟨b, o, none⟩ v) := (But.refl b w).setCell o v
/-- What vector leaves: a new slice of the vector's numbers. -/
def VecDone (g : Nat → Int) (J : Nat → World → Prop) (w : World) (e : Ending) (w' : World) : Prop :=
  e = .returned (.slice (some ⟨w.heap.size, 0, none⟩) (upto g 8) (upto g 8)) ∧ Eight w' w.heap.size g 8 ∧ J 8 w'
theorem upto_yes {g : Nat → Int} {k : Nat} (h : 0 < g k) : upto g (k + 1) = k + 1 := if_pos h
theorem upto_no {g : Nat → Int} {k : Nat} (h : ¬ 0 < g k) : upto g (k + 1) = upto g k := if_neg h


end Go.Proofs.Ytolmhlfegllfoaa

/- Contracts of package mark's normal, Join, Meet, With. -/
namespace Go.Proofs.Ytolmhlfegllfoaa
open Go.RowKit Go.Proofs.Ytolmhlfegllfoaa.Vi Go.Proofs.Ytolmhlfegllfoaa.Mk

/-- A new slice of the numbers l, and nothing that was there has turned. -/
def VDone (l : List Int) (w : World) (e : Ending) (w' : World) : Prop := ∃ v, e = .returned v ∧ Nums w' w'.heap.size v l ∧ Below w.heap.size w w'
theorem nums_of_eight {w : World} {b : Nat} {g : Nat → Int} (h : Eight w b g 8) (hf : Fit g) : Nums w w.heap.size (.slice (some ⟨b, 0, none⟩) (upto g 8) (upto g 8)) (vec g) := by
  refine ⟨⟨_, _, by rw [vec_length], Or.inr ⟨b, 0, rfl, h.room, fun j hj => ?_⟩⟩, fun n hn => ?_, ?_, Nat.le_refl _⟩
  · rw [vec_length] at hj
    have := upto_le g 8
    rw [vec_get, Nat.zero_add]
    exact h.get j (by omega) (by omega)
  · have := vec_fit hf n hn; omega
  · have := vec_size g; omega
theorem cl_fit {f : Nat → Int} (h : ∀ i, 0 ≤ f i ∧ f i ≤ 1099511627776) : (fun i => cl (f i)) = f := funext fun i => cl_in (h i).1 (h i).2
theorem keepJ {W u u' : World} (h : Below W.heap.size W u) (k : But W.heap.size u u') (hz : W.heap.size ≤ u.heap.size) : Below W.heap.size W u' := h.trans (k.below (Nat.le_refl _) hz)

theorem withF (a : List Int) (s n : Int) : (fun i : Nat => cl (if (i : Int) = s then n else atL a (i : Int))) = fun i : Nat => if (i : Int) = s then cl n else atL a (i : Int) := by
  funext i
  by_cases h : (i : Int) = s
  · rw [if_pos h, if_pos h]
  · rw [if_neg h, if_neg h, cl_in (atL_bounds a _).1 (atL_bounds a _).2]
end Go.Proofs.Ytolmhlfegllfoaa

/- Contracts of package mark's Covers, Compare, Right, Text, of slices.Equal, and of the document's Same. -/
namespace Go.Proofs.Ytolmhlfegllfoaa
open Go.RowKit Go.Proofs.Ytolmhlfegllfoaa.Vi Go.Proofs.Ytolmhlfegllfoaa.Mk

/-- Whether two lists are the same. -/
def sameL (a b : List Int) : Bool := decide (a = b)
theorem sameL_len {a b : List Int} (h : a.length ≠ b.length) : sameL a b = false := by
  unfold sameL; simp; intro e; exact h (by rw [e])
theorem sameL_no {a b : List Int} {k : Nat} (h1 : k < a.length) (h2 : k < b.length) (h : a[k] ≠ b[k]) : sameL a b = false := by
  unfold sameL; simp; rintro rfl; exact h rfl
theorem sameL_yes {a b : List Int} (hl : a.length = b.length) (h : ∀ j (h1 : j < a.length) (h2 : j < b.length), a[j] = b[j]) : sameL a b = true := by
  unfold sameL; simp; exact List.ext_getElem hl h
theorem Nums.cell {w : World} {B : Nat} {a : Option Addr} {len cap : Nat} {l : List Int} (h : Nums w B (.slice a len cap) l) (h0 : 0 < l.length) : len = l.length ∧ ∃ b off, a = some ⟨b, off, none⟩ ∧ ∀ j (h : j < l.length), w.cell? ⟨b, off + j, none⟩ = some (.int .i64 l[j]) := by
  obtain ⟨⟨a', cap', h1, h2⟩, _⟩ := h
  injection h1 with e1 e2 e3
  subst e1 e2
  rcases h2 with rfl | ⟨b, off, h3, _, h4⟩
  · simp at h0
  · exact ⟨rfl, b, off, h3, h4⟩

-- TWICE

set_option maxHeartbeats 1000000 in
theorem rsame_is (v1 v2 : Value) (l1 l2 : List Int) (B1 B2 : Nat) (w : World) (h1 : Nums w B1 v1 l1) (h2 : Nums w B2 v2 l2) : Calls Try.prog 21 #[v1, v2] w fun e w' => e = .returned (.bool (sameL l1 l2)) ∧ Below w.heap.size w w' := by
  obtain ⟨z, hz⟩ : ∃ z, sameL l1 l2 = z := ⟨_, rfl⟩
  have HZ := Lib.hid hz
  rw [hz]
  clear hz
  obtain ⟨a1, cap1, rfl⟩ := h1.slice
  obtain ⟨a2, cap2, rfl⟩ := h2.slice
  have hr1 := h1.room
  have hr2 := h2.room
  have hs1 := h1.size
  have hs2 := h2.size
  have H1 := Lib.hid h1
  have H2 := Lib.hid h2
  clear h1 h2
  by_cases hlen : l1.length = l2.length
  · obtain ⟨n, hn⟩ : ∃ n, l2.length = n := ⟨_, rfl⟩
    have HN := Lib.hid hn
    have HN1 := Lib.hid (hlen.trans hn)
    rw [hlen.trans hn, hn]
    rw [hn] at hs2
    clear hlen hn hs1
    go_enter Try.func21, Try.ntmps21
    go_wp2
    go_loopw [5] (fun i wr => ∃ k : Nat, k ≤ n ∧ i = .int .i64 (k : Int) ∧ Below w.heap.size w wr ∧ ∀ j (h1 : j < l1.length) (h2 : j < l2.length), j < k → l1[j] = l2[j]) (fun i _ => n - (intOf i).toNat)
    case atStart => exact ⟨0, by omega, rfl, Below.refl _ _, fun j _ _ hj => absurd hj (Nat.not_lt_zero _)⟩
    case round =>
      obtain ⟨k, hk, rfl, hbel, hall⟩ := hrel
      have HALL := Lib.hid hall
      clear hall
      by_cases hkn : k < n
      · have hk2 : (k : Int) < (n : Int) := by omega
        have hkl1 : k < l1.length := by rw [HN1.out]; exact hkn
        have hkl2 : k < l2.length := by rw [HN.out]; exact hkn
        obtain ⟨-, b1, off1, rfl, g1⟩ := (H1.out.next hbel).cell (by omega)
        obtain ⟨-, b2, off2, rfl, g2⟩ := (H2.out.next hbel).cell (by omega)
        have c1 := g1 k hkl1
        have c2 := g2 k hkl2
        obtain ⟨x, hx⟩ : ∃ x, l1[k] = x := ⟨_, rfl⟩
        obtain ⟨y, hy⟩ : ∃ y, l2[k] = y := ⟨_, rfl⟩
        rw [hx] at c1
        rw [hy] at c2
        have HX := Lib.hid hx
        have HY := Lib.hid hy
        have HB := Lib.hid hbel
        clear g1 g2 hx hy hbel
        by_cases hxy : x = y
        · have hq : (x == y) = true := by simpa using hxy
          clear hkn
          go_wp2_with fail
          go_quiet (fail)
          go_wp2
          go_roundw
          case rel =>
            refine ⟨k + 1, by omega, by go_num, below_drewN HB.out _, fun j h1 h2 hj => ?_⟩
            by_cases e : j = k
            · subst e; rw [HX.out, HY.out]; exact hxy
            · exact HALL.out j h1 h2 (by omega)
          case measure => simp [intOf]; omega
        · have hq : (x == y) = false := by simpa using hxy
          have HNE := Lib.hid hxy
          clear hxy
          go_wp2_with fail
          go_quiet (fail)
          go_wp2
          go_ret
          exact ⟨by rw [← HZ.out, sameL_no (k := k) (by rw [HN1.out]; exact hkn) (by rw [HN.out]; exact hkn) (by rw [HX.out, HY.out]; exact HNE.out)]; rfl, below_drewN HB.out _⟩
      · obtain rfl : k = n := by omega
        have hk2 : ¬ (k : Int) < (k : Int) := by omega
        clear hkn
        go_wp2
        go_ret
        exact ⟨by rw [← HZ.out, sameL_yes (HN1.out.trans HN.out.symm) fun j h1 h2 => HALL.out j h1 h2 (by rw [← HN1.out]; exact h1)]; rfl, hbel⟩
  · have hl2 : ((l1.length : Int) == (l2.length : Int)) = false := by simp; omega
    have HL := Lib.hid (sameL_len hlen)
    clear hlen
    go_enter Try.func21, Try.ntmps21
    go_wp2
    go_ret
    exact ⟨by rw [← HZ.out, HL.out]; rfl, Below.refl _ _⟩

/-- At most twelve numbers of it. -/
def CutN (B : Nat) (l : List Int) (w : World) (e : Ending) (w' : World) : Prop := ∃ v', e = .returned v' ∧ Nums w B v' (l.take 12) ∧ w = w'
/-- The bytes of numbers, one behind the other. -/
def encL (l : List Int) : List UInt8 := l.flatMap fun n => enc n.toNat
def textL (l : List Int) : List UInt8 := enc l.length ++ encL l
theorem encL_snoc (l : List Int) (k : Nat) (h : k < l.length) : encL (l.take (k + 1)) = encL (l.take k) ++ enc (l[k]).toNat := by
  unfold encL
  rw [List.take_succ_eq_append_getElem h, List.flatMap_append]; simp
theorem encL_len (l : List Int) (h : ∀ n ∈ l, 0 ≤ n ∧ n ≤ 1099511627776) : (encL l).length ≤ 10 * l.length := by
  induction l with
  | nil => simp [encL]
  | cons a t ih =>
    have h1 := ih fun n hn => h n (List.mem_cons_of_mem _ hn)
    have h2 := h a (List.mem_cons_self ..)
    have h3 := enc_len10 a.toNat (by omega)
    have e : encL (a :: t) = enc a.toNat ++ encL t := by simp [encL]
    rw [e, List.length_append, List.length_cons]; omega
theorem textL_len (l : List Int) (h : ∀ n ∈ l, 0 ≤ n ∧ n ≤ 1099511627776) (hl : l.length ≤ 8) : (textL l).length ≤ 90 := by
  have h1 := encL_len l h
  have h2 := enc_len10 l.length (by omega)
  unfold textL; rw [List.length_append]; omega
theorem u64_in (n : Int) (h0 : 0 ≤ n) (h1 : n ≤ 1099511627776) : IntKind.u64.wrap n = n := by rw [IntKind.wrap_u64]; omega

end Go.Proofs.Ytolmhlfegllfoaa

/- Contracts of Bytes and Take, of package mark and of the document. -/
namespace Go.Proofs.Ytolmhlfegllfoaa
open Go.RowKit Go.Proofs.Ytolmhlfegllfoaa.Vi Go.Proofs.Ytolmhlfegllfoaa.Mk

/-- A stamp's bytes. -/
def St.bytes (a : St) : List UInt8 := if a.ok then enc a.c.toNat ++ enc a.s.toNat ++ enc a.q.toNat else []
theorem St.bytes_yes {a : St} (h : a.ok = true) : a.bytes = enc a.c.toNat ++ enc a.s.toNat ++ enc a.q.toNat := if_pos h
theorem St.bytes_no {a : St} (h : a.ok = false) : a.bytes = [] := by unfold St.bytes; rw [if_neg]; simp [h]
theorem St.ok_iff {a : St} : a.ok = true ↔ 1 ≤ a.c ∧ a.c ≤ 1099511627776 ∧ 0 ≤ a.s ∧ a.s ≤ 7 ∧ 1 ≤ a.q ∧ a.q ≤ 1099511627776 := by unfold St.ok; simp
theorem checkV (a : St) (x : Int) (hx : Hid (a.err = x)) (w : World) : Calls Try.prog 46 #[.agg #[.int .i64 a.c, .int .i64 a.s, .int .i64 a.q]] w fun e w' => e = .returned (.int .i64 x) ∧ Below w.heap.size w w' := by
  have := check_is a w
  rw [hx.out] at this; exact this
theorem rcheckV (a : St) (x : Int) (hx : Hid (a.err = x)) (w : World) : Calls Try.prog 43 #[.agg #[.int .i64 a.c, .int .i64 a.s, .int .i64 a.q]] w fun e w' => e = .returned (.int .i64 x) ∧ Below w.heap.size w w' := by
  have := rcheck_is a w
  rw [hx.out] at this; exact this
/-- One stamp in its block. -/
structure Held1 (w : World) (b : Nat) (a : St) (w' : World) : Prop where
  h : StAt w' b a
  bel : Below w.heap.size w w'
theorem Held1.keep {w w1 w2 : World} {b : Nat} {a : St} (h : Held1 w b a w1) (k : Below w1.heap.size w1 w2) : Held1 w b a w2 := ⟨h.h.below k, bel_next h.bel k⟩
theorem Held1.drew {w w1 : World} {b : Nat} {a : St} (h : Held1 w b a w1) : Held1 w b a w1.drew := h.keep ((Below.refl _ _).drew)

theorem RA.other {w : World} {b : Nat} {r : ByteArray} {br : Bool} (h : RA w b r br) (a : Addr) (v : Value) (hne : a.block ≠ b) : RA (w.setCell a v) b r br :=
  ⟨by rw [World.cell?_setCell_far _ _ _ _ hne]; exact h.c0, by rw [World.cell?_setCell_far _ _ _ _ hne]; exact h.c1, by simp [go_sem, h.f0], by simp [go_sem, h.f1]⟩
theorem But.far {b : Nat} {u w : World} (h : But b u w) (a : Addr) (v : Value) (ha : u.heap.size ≤ a.block) : But b u (w.setCell a v) :=
  ⟨h.os, h.tape, h.output, by simpa [World.setCell] using h.size, fun k hk hb => by rw [← h.block k hk hb]; exact Below.heap_setCell _ _ _ _ (by omega)⟩
theorem Out.but {w w' : World} {b d : Nat} (h : Out w b) (k : But d w w') (hd : b ≠ d) : Out w' b :=
  ⟨(k.cell (p := ⟨b, 0, none⟩) hd h.room).trans h.z0, (k.cell (p := ⟨b, 1, none⟩) hd h.room).trans h.z1, (k.cell (p := ⟨b, 2, none⟩) hd h.room).trans h.z2, (k.frozen (p := ⟨b, 0, none⟩) hd h.room).trans h.y0, (k.frozen (p := ⟨b, 1, none⟩) hd h.room).trans h.y1, (k.frozen (p := ⟨b, 2, none⟩) hd h.room).trans h.y2⟩
theorem StAt.but {w w' : World} {b d : Nat} {a : St} (h : StAt w b a) (k : But d w w') (hd : b ≠ d) : StAt w' b a :=
  ⟨(k.cell (p := ⟨b, 0, none⟩) hd h.room).trans h.c0, (k.cell (p := ⟨b, 1, none⟩) hd h.room).trans h.c1, (k.cell (p := ⟨b, 2, none⟩) hd h.room).trans h.c2⟩
theorem StAt.other {w : World} {b : Nat} {a : St} (h : StAt w b a) (x : Addr) (v : Value) (hne : x.block ≠ b) : StAt (w.setCell x v) b a :=
  ⟨by rw [World.cell?_setCell_far _ _ _ _ hne]; exact h.c0, by rw [World.cell?_setCell_far _ _ _ _ hne]; exact h.c1, by rw [World.cell?_setCell_far _ _ _ _ hne]; exact h.c2⟩
theorem StAt.set {w : World} {b : Nat} {a : St} (h : StAt w b a) (z : St) : StAt (((w.setCell ⟨b, 0, none⟩ (.int .i64 z.c)).setCell ⟨b, 1, none⟩ (.int .i64 z.s)).setCell ⟨b, 2, none⟩ (.int .i64 z.q)) b z := by
  obtain ⟨c0, c1, c2⟩ := h
  exact ⟨by simp [go_sem, c0], by simp [go_sem, c1], by simp [go_sem, c2]⟩
theorem but_new {b : Nat} {w a : World} (h : But b w a) (o : Obj) : But b w (a.alloc o) := h.alloc o
theorem but_next {b : Nat} {w a c : World} (h : But b w a) (k : But b a c) : But b w c := h.trans k
theorem but_bel {b : Nat} {w a c : World} (h : But b w a) (k : Below a.heap.size a c) : But b w c := h.trans (But.of k)

/-- The stamp that three calls of Small answer, and what is left. -/
def takeQ (r : ByteArray) (br : Bool) : St × ByteArray × Bool :=
  let x1 := smallQ r br 1099511627776
  let x2 := smallQ x1.2.1 x1.2.2 7
  let x3 := smallQ x2.2.1 x2.2.2 1099511627776
  if (St.mk x1.1 x2.1 x3.1).ok then (St.mk x1.1 x2.1 x3.1, x3.2.1, x3.2.2) else (⟨0, 0, 0⟩, ⟨#[]⟩, true)
theorem smallQ_inv {r r' : ByteArray} {br br' : Bool} {m v : Int} (H : smallQ r br m = (v, r', br')) (h : br = true → r = ⟨#[]⟩) : (br' = true → r' = ⟨#[]⟩ ∧ v = 0) ∧ (br' = false → br = false) ∧ r'.size ≤ r.size := by
  unfold smallQ at H
  split at H
  · rename_i hb
    simp at H
    obtain ⟨rfl, rfl, rfl⟩ := H
    exact ⟨fun _ => ⟨h hb, rfl⟩, fun e => (by cases e), Nat.le_refl _⟩
  · split at H
    · simp at H
      obtain ⟨rfl, rfl, rfl⟩ := H
      exact ⟨fun _ => ⟨rfl, rfl⟩, fun e => (by cases e), Nat.zero_le _⟩
    · rename_i u r1 hf
      have := (numF_bounds hf).2
      split at H
      · rename_i hb _ _
        simp at H
        obtain ⟨rfl, rfl, rfl⟩ := H
        exact ⟨fun e => (by cases e), fun _ => (by simpa using hb), this⟩
      · simp at H
        obtain ⟨rfl, rfl, rfl⟩ := H
        exact ⟨fun _ => ⟨rfl, rfl⟩, fun e => (by cases e), Nat.zero_le _⟩
theorem smallQ_neg {r : ByteArray} {br : Bool} (h : br = true → r = ⟨#[]⟩) : smallQ r br (-1) = (0, ⟨#[]⟩, true) := by
  unfold smallQ
  cases br with
  | true => rw [if_pos rfl, h rfl]
  | false =>
    rw [if_neg (by simp)]
    split
    · rfl
    · rw [if_neg (by omega)]
/-- What Take's three calls answer, one by one, and what that makes. -/
theorem takeQ_parts {r r' : ByteArray} {br br' : Bool} {a : St} (H : takeQ r br = (a, r', br')) (h : br = true → r = ⟨#[]⟩) : ∃ v1 r1 b1 v2 r2 b2 v3 r3 b3,
    smallQ r br 1099511627776 = (v1, r1, b1) ∧ smallQ r1 b1 7 = (v2, r2, b2) ∧ smallQ r2 b2 1099511627776 = (v3, r3, b3) ∧ (b1 = true → r1 = ⟨#[]⟩) ∧ (b2 = true → r2 = ⟨#[]⟩) ∧ (b3 = true → r3 = ⟨#[]⟩) ∧
    r1.size ≤ r.size ∧ r2.size ≤ r.size ∧ r3.size ≤ r.size ∧
    (((St.mk v1 v2 v3).ok = true ∧ a = St.mk v1 v2 v3 ∧ r' = r3 ∧ br' = b3 ∧ b3 = false) ∨ ((St.mk v1 v2 v3).ok = false ∧ a = ⟨0, 0, 0⟩ ∧ r' = ⟨#[]⟩ ∧ br' = true)) := by
  unfold takeQ at H
  obtain ⟨⟨v1, r1, b1⟩, h1⟩ : ∃ x, smallQ r br 1099511627776 = x := ⟨_, rfl⟩
  obtain ⟨⟨v2, r2, b2⟩, h2⟩ : ∃ x, smallQ r1 b1 7 = x := ⟨_, rfl⟩
  obtain ⟨⟨v3, r3, b3⟩, h3⟩ : ∃ x, smallQ r2 b2 1099511627776 = x := ⟨_, rfl⟩
  simp only [h1, h2, h3] at H
  obtain ⟨i1, j1, s1⟩ := smallQ_inv h1 h
  obtain ⟨i2, j2, s2⟩ := smallQ_inv h2 fun e => (i1 e).1
  obtain ⟨i3, j3, s3⟩ := smallQ_inv h3 fun e => (i2 e).1
  refine ⟨v1, r1, b1, v2, r2, b2, v3, r3, b3, h1, h2, h3, fun e => (i1 e).1, fun e => (i2 e).1, fun e => (i3 e).1, s1, by omega, by omega, ?_⟩
  cases hok : (St.mk v1 v2 v3).ok with
  | true =>
    rw [hok, if_pos rfl] at H
    simp at H
    obtain ⟨rfl, rfl, rfl⟩ := H
    refine Or.inl ⟨rfl, rfl, rfl, rfl, ?_⟩
    cases b3 with
    | false => rfl
    | true =>
      have := (i3 rfl).2
      have := St.ok_iff.1 hok
      simp only at this
      omega
  | false =>
    rw [hok, if_neg (by simp)] at H
    simp at H
    obtain ⟨rfl, rfl, rfl⟩ := H
    exact Or.inr ⟨rfl, rfl, rfl, rfl⟩
theorem takeQ_inv {r r' : ByteArray} {br br' : Bool} {a : St} (H : takeQ r br = (a, r', br')) (h : br = true → r = ⟨#[]⟩) : (br' = true → r' = ⟨#[]⟩) ∧ r'.size ≤ r.size := by
  obtain ⟨v1, r1, b1, v2, r2, b2, v3, r3, b3, h1, h2, h3, i1, i2, i3, s1, s2, s3, ⟨_, _, rfl, rfl, rfl⟩ | ⟨_, _, rfl, rfl⟩⟩ := takeQ_parts H h
  · exact ⟨fun e => (by cases e), s3⟩
  · exact ⟨fun _ => rfl, Nat.zero_le _⟩

theorem RS.other {w : World} {d : Nat} {S r : ByteArray} {br : Bool} (h : RS w d S r br) (x : Addr) (v : Value) (hne : x.block ≠ d) : RS (w.setCell x v) d S r br := by
  obtain ⟨a, bad, ⟨c0, c1, c2, f0, f1, f2⟩, hs⟩ := h
  exact ⟨a, bad, ⟨by rw [World.cell?_setCell_far _ _ _ _ hne]; exact c0, by rw [World.cell?_setCell_far _ _ _ _ hne]; exact c1, by rw [World.cell?_setCell_far _ _ _ _ hne]; exact c2, by simp [go_sem, f0], by simp [go_sem, f1], by simp [go_sem, f2]⟩, hs⟩
theorem RS.below {w w' : World} {d : Nat} {S r : ByteArray} {br : Bool} (h : RS w d S r br) (k : Below w.heap.size w w') : RS w' d S r br := by
  obtain ⟨a, bad, h, s⟩ := h; exact ⟨a, bad, h.below k, s⟩
theorem RS.spoil {w : World} {d : Nat} {S r : ByteArray} {br : Bool} (h : RS w d S r br) : RS (w.setCell ⟨d, 2, none⟩ (.bool true)) d S ⟨#[]⟩ true := by
  obtain ⟨a, bad, h, hs⟩ := h
  exact ⟨a, true, h.spoil, rfl, hs.2.1, fun e => (by cases e), fun _ => rfl⟩

end Go.Proofs.Ytolmhlfegllfoaa

/- Contracts of package mark over slices of numbers that may be read ('Ns'). -/
namespace Go.Proofs.Ytolmhlfegllfoaa
open Go.RowKit Go.Proofs.Ytolmhlfegllfoaa.Vi Go.Proofs.Ytolmhlfegllfoaa.Mk

/-- v is a slice of the numbers l. -/
abbrev Ns (w : World) (v : Value) (l : List Int) : Prop := Nums w w.heap.size v l
theorem Ns.later {w w' : World} {v : Value} {l : List Int} (h : Ns w v l) (k : Below w.heap.size w w') : Ns w' v l := (Nums.below h k).mono k.size (Nat.le_refl _)
theorem VDone.ns {l : List Int} {w w' : World} {e : Ending} (h : VDone l w e w') : ∃ v, e = .returned v ∧ Ns w' v l ∧ Below w.heap.size w w' := h
theorem rsameN (v1 v2 : Value) (l1 l2 : List Int) (w : World) (h1 : Ns w v1 l1) (h2 : Ns w v2 l2) : Calls Try.prog 21 #[v1, v2] w fun e w' => e = .returned (.bool (sameL l1 l2)) ∧ Below w.heap.size w w' := rsame_is v1 v2 l1 l2 _ _ w h1 h2
def Small (x : Int) : Prop := 0 ≤ x ∧ x ≤ 100
theorem lit1 (w : World) (b : Nat) (x : Int) (hc : w.cell? ⟨b, 0, none⟩ = some (.int .i64 x)) (hx : Small x) : Nums w w.heap.size (.slice (some ⟨b, 0, none⟩) 1 1) [x] :=
  ⟨⟨_, _, rfl, Or.inr ⟨b, 0, rfl, World.block_lt_of_cell? w _ hc, fun j hj => by
    match j, hj with
    | 0, _ => exact hc⟩⟩, fun n hn => by unfold Small at *; simp at hn; subst hn; omega, by simp, Nat.le_refl _⟩
theorem lit2 (w : World) (b : Nat) (x y : Int) (hc : w.cell? ⟨b, 0, none⟩ = some (.int .i64 x)) (hd : w.cell? ⟨b, 1, none⟩ = some (.int .i64 y)) (hx : Small x) (hy : Small y) : Nums w w.heap.size (.slice (some ⟨b, 0, none⟩) 2 2) [x, y] :=
  ⟨⟨_, _, rfl, Or.inr ⟨b, 0, rfl, World.block_lt_of_cell? w _ hc, fun j hj => by
    match j, hj with
    | 0, _ => exact hc
    | 1, _ => exact hd⟩⟩, fun n hn => by unfold Small at *; simp at hn; omega, by simp, Nat.le_refl _⟩
theorem lit3 (w : World) (b : Nat) (x y z : Int) (hc : w.cell? ⟨b, 0, none⟩ = some (.int .i64 x)) (hd : w.cell? ⟨b, 1, none⟩ = some (.int .i64 y)) (he : w.cell? ⟨b, 2, none⟩ = some (.int .i64 z)) (hx : Small x) (hy : Small y) (hz : Small z) : Nums w w.heap.size (.slice (some ⟨b, 0, none⟩) 3 3) [x, y, z] :=
  ⟨⟨_, _, rfl, Or.inr ⟨b, 0, rfl, World.block_lt_of_cell? w _ hc, fun j hj => by
    match j, hj with
    | 0, _ => exact hc
    | 1, _ => exact hd
    | 2, _ => exact he⟩⟩, fun n hn => by unfold Small at *; simp at hn; omega, by simp, Nat.le_refl _⟩
end Go.Proofs.Ytolmhlfegllfoaa

/- Slices of stamps: one that came in, and one that the call makes. -/
namespace Go.Proofs.Ytolmhlfegllfoaa
open Go.RowKit Go.Proofs.Ytolmhlfegllfoaa.Vi Go.Proofs.Ytolmhlfegllfoaa.Mk

/-- A stamp's three cells in block b from o on. -/
structure StO (w : World) (b o : Nat) (a : St) : Prop where
  c0 : w.cell? ⟨b, o, none⟩ = some (.int .i64 a.c)
  c1 : w.cell? ⟨b, o + 1, none⟩ = some (.int .i64 a.s)
  c2 : w.cell? ⟨b, o + 2, none⟩ = some (.int .i64 a.q)
theorem StO.room {w : World} {b o : Nat} {a : St} (h : StO w b o a) : b < w.heap.size := World.block_lt_of_cell? w _ h.c0
theorem StO.below {w w' : World} {b o B : Nat} {a : St} (h : StO w b o a) (k : Below B w w') (hb : b < B) : StO w' b o a :=
  ⟨(k.cell (p := ⟨b, o, none⟩) hb).trans h.c0, (k.cell (p := ⟨b, o + 1, none⟩) hb).trans h.c1, (k.cell (p := ⟨b, o + 2, none⟩) hb).trans h.c2⟩
theorem StO.but {w w' : World} {b o d : Nat} {a : St} (h : StO w b o a) (k : But d w w') (hd : b ≠ d) : StO w' b o a :=
  ⟨(k.cell (p := ⟨b, o, none⟩) hd h.room).trans h.c0, (k.cell (p := ⟨b, o + 1, none⟩) hd h.room).trans h.c1, (k.cell (p := ⟨b, o + 2, none⟩) hd h.room).trans h.c2⟩
/-- A slice of the stamps l, in a block below B. -/
structure Sts (w : World) (B : Nat) (a : Option Addr) (l : List St) : Prop where
  at_ : l = [] ∨ ∃ b off, a = some ⟨b, off, none⟩ ∧ b < B ∧ ∀ j (h : j < l.length), StO w b (off + j * 3) l[j]
theorem Sts.below {w w' : World} {B : Nat} {a : Option Addr} {l : List St} (h : Sts w B a l) (k : Below B w w') : Sts w' B a l := by
  rcases h.at_ with h | ⟨b, off, e, hb, hc⟩
  · exact ⟨Or.inl h⟩
  · exact ⟨Or.inr ⟨b, off, e, hb, fun j hj => (hc j hj).below k hb⟩⟩
theorem Sts.but {w w' : World} {B d : Nat} {a : Option Addr} {l : List St} (h : Sts w B a l) (k : But d w w') (hd : B ≤ d) : Sts w' B a l := by
  rcases h.at_ with h | ⟨b, off, e, hb, hc⟩
  · exact ⟨Or.inl h⟩
  · exact ⟨Or.inr ⟨b, off, e, hb, fun j hj => (hc j hj).but k (by omega)⟩⟩
/-- A slice of stamps that came in. -/
structure ArgStamps (w : World) (a : Option Addr) (len cap : Nat) : Prop where
  has : ∃ l : List St, l.length = len ∧ Sts w w.heap.size a l ∧ len ≤ 9223372036854775807

theorem cellsE : Try.prog.cellsOf 29 = 3 := by kernel_rfl
theorem stamp_of_cells {H : Type} {enc : TypeId × Value → H} {w : World} {base : Nat} {sp : Nat → Bool} {hd : Bool} {n : Nat} {cs : List Value} {x : DataW H × List MemPlace} (hcs : cs.length = 3)
    (h : DataW.trod enc Try.prog w base sp hd n 29 cs = some x) : ∃ a : St, cs = [.int .i64 a.c, .int .i64 a.s, .int .i64 a.q] := by
  match cs, hcs with
  | [c0, c1, c2], _ =>
    obtain ⟨y0, y1, y2, m, _, _, h0, h1, h2⟩ := Go.Deep.trod_struct3 Try.underlying29 h
    have hI : Try.prog.cellsOf 3 = 1 := by kernel_rfl
    simp only [hI, List.drop_zero, List.take_succ_cons, List.take_zero, List.drop_succ_cons] at h0 h1 h2
    obtain ⟨n0, e0, _, _⟩ := DataW.trod_int Try.underlying3 h0
    obtain ⟨n1, e1, _, _⟩ := DataW.trod_int Try.underlying3 h1
    obtain ⟨n2, e2, _, _⟩ := DataW.trod_int Try.underlying3 h2
    simp at e0 e1 e2
    exact ⟨⟨n0, n1, n2⟩, by rw [e0, e1, e2]⟩
end Go.Proofs.Ytolmhlfegllfoaa

/- Slices of numbers that came in, as lists. -/
namespace Go.Proofs.Ytolmhlfegllfoaa
open Go.RowKit Go.Proofs.Ytolmhlfegllfoaa.Vi Go.Proofs.Ytolmhlfegllfoaa.Mk

/-- v came in: a slice of the numbers l. -/
structure ArgNs (w : World) (v : Value) (l : List Int) : Prop where
  ns : Ns w v l
  cap : Hid (∃ a len cap, v = .slice a len cap ∧ len ≤ cap)
theorem argNs_of {w : World} {a : Option Addr} {len cap : Nat} (h : ArgInts w a len cap) : ∃ l, ArgNs w (.slice a len cap) l := by
  rcases h with rfl | ⟨b, off, l, rfl, hl, hlc, hm, hc, hw⟩
  · exact ⟨[], (Nums.nil w a cap).mono (Nat.zero_le _) (Nat.le_refl _), a, 0, cap, rfl, Nat.zero_le _⟩
  · subst hl
    by_cases h0 : l.length = 0
    · obtain rfl := List.eq_nil_of_length_eq_zero h0
      exact ⟨[], (Nums.nil w _ cap).mono (Nat.zero_le _) (Nat.le_refl _), _, 0, cap, rfl, Nat.zero_le _⟩
    · exact ⟨l, ⟨⟨_, _, rfl, Or.inr ⟨b, off, rfl, World.block_lt_of_cell? w _ (hc 0 (by omega)), hc⟩⟩, hw, by unfold maxLen at hm; omega, Nat.le_refl _⟩, _, _, _, rfl, hlc⟩
theorem sameL_self (l : List Int) : sameL l l = true := by unfold sameL; simp
end Go.Proofs.Ytolmhlfegllfoaa
