/- Joined: VintArgs, MarkAt, MarkVec, MarkVecs, MarkTell, MarkTake, MarkNs, MarkStamps, MarkArgs. -/
import Derived.Test.YtkomfenjeoaelaaDoorVintA
import Derived.SliceStrings
import Derived.ChangeSlices
import Derived.Deep.DeepHandedRow
import Derived.Test.YtkomfenjeoaelaaDoorVintB
import Derived.Test.YtkomfenjeoaelaaDoorMarkA
import Derived.WalkSmall
import Derived.Deep.Slices
import Derived.Lib.SmallJoins
import Derived.OpenShut
/- Slices of numbers and of texts that came in. -/
namespace Go.Proofs.YtkomfenjeoaelaaDoor
open Go.RowKit

/-- A slice of numbers that came in: empty, or each of its cells holds a number. -/
def ArgInts (w : World) (a : Option Addr) (len cap : Nat) : Prop :=
  len = 0 ∨ ∃ (b off : Nat) (l : List Int), a = some ⟨b, off, none⟩ ∧ l.length = len ∧ len ≤ cap ∧ cap ≤ maxLen ∧ (∀ j (h : j < l.length), w.cell? ⟨b, off + j, none⟩ = some (.int .i64 l[j])) ∧ ∀ n ∈ l, -9223372036854775808 ≤ n ∧ n ≤ 9223372036854775807
/-- A slice of texts that came in. -/
def ArgStrs (w : World) (a : Option Addr) (len cap : Nat) : Prop :=
  len = 0 ∨ ∃ (b off : Nat) (l : List ByteArray), a = some ⟨b, off, none⟩ ∧ l.length = len ∧ len ≤ cap ∧ cap ≤ maxLen ∧ (∀ j (h : j < l.length), w.cell? ⟨b, off + j, none⟩ = some (.string l[j])) ∧ ∀ s ∈ l, s.size ≤ maxLen

theorem argInts_of {H : Type} {enc : TypeId × Value → H} {w : World} {base fuel : Nat} {sp : Nat → Bool} {hd : Bool} {a : Option Addr} {len cap : Nat} {t e : TypeId} {x : DataW H × List MemPlace}
    (ht : Tryd.prog.underlying t = some (.slice e)) (he : Tryd.prog.underlying e = some (.int .i64)) (hc : Tryd.prog.cellsOf e = 1)
    (h : DataW.trod enc Tryd.prog w base sp hd fuel t [.slice a len cap] = some x) : ArgInts w a len cap := by
  rcases Go.ChangeShapes.open_ints ht he hc h with ⟨hcs, _⟩ | ⟨y, l, c, zs, hcs, _, hl, hm, hz, _, hcell, hwf⟩
  · simp at hcs
    exact Or.inl hcs.2.1
  · simp at hcs
    obtain ⟨rfl, rfl, rfl⟩ := hcs
    by_cases h0 : len = 0
    · exact Or.inl h0
    · have hlen : len ≤ zs.length := by rw [hz]; split <;> omega
      obtain ⟨b, off, spot⟩ := y
      have hc := hcell 0 (by omega)
      have hspot : spot = none := by simpa [Addr.add] using World.cell?_spot hc
      subst hspot
      have hp : ∀ j, (⟨b, off, none⟩ : Addr).add j = ⟨b, off + j, none⟩ := fun j => by unfold Addr.add; split <;> simp_all
      refine Or.inr ⟨b, off, zs.take len, rfl, by rw [List.length_take]; omega, hl, hm, fun j hj => ?_, fun n hn => ?_⟩
      · rw [List.length_take] at hj
        rw [← hp, hcell j (by omega), List.getElem_take, List.getD_eq_getElem?_getD, List.getElem?_eq_getElem (by omega)]; rfl
      · have := bounds_i64 (hwf n (List.mem_of_mem_take hn))
        omega
theorem argStrs_of {H : Type} {enc : TypeId × Value → H} {w : World} {base fuel : Nat} {sp : Nat → Bool} {hd : Bool} {a : Option Addr} {len cap : Nat} {t e : TypeId} {x : DataW H × List MemPlace}
    (ht : Tryd.prog.underlying t = some (.slice e)) (he : Tryd.prog.underlying e = some .string) (hc : Tryd.prog.cellsOf e = 1)
    (h : DataW.trod enc Tryd.prog w base sp hd fuel t [.slice a len cap] = some x) : ArgStrs w a len cap := by
  rcases Go.ChangeShapes.open_strings ht he hc h with ⟨hcs, _⟩ | ⟨y, l, c, zs, hcs, _, hl, hm, hz, _, hcell, hwf⟩
  · simp at hcs
    exact Or.inl hcs.2.1
  · simp at hcs
    obtain ⟨rfl, rfl, rfl⟩ := hcs
    by_cases h0 : len = 0
    · exact Or.inl h0
    · have hlen : len ≤ zs.length := by rw [hz]; split <;> omega
      obtain ⟨b, off, spot⟩ := y
      have hc := hcell 0 (by omega)
      have hspot : spot = none := by simpa [Addr.add] using World.cell?_spot hc
      subst hspot
      have hp : ∀ j, (⟨b, off, none⟩ : Addr).add j = ⟨b, off + j, none⟩ := fun j => by unfold Addr.add; split <;> simp_all
      refine Or.inr ⟨b, off, zs.take len, rfl, by rw [List.length_take]; omega, hl, hm, fun j hj => ?_, fun s hs => hwf s (List.mem_of_mem_take hs)⟩
      rw [List.length_take] at hj
      rw [← hp, hcell j (by omega), List.getElem_take, List.getD_eq_getElem?_getD, List.getElem?_eq_getElem (by omega)]; rfl
end Go.Proofs.YtkomfenjeoaelaaDoor

/- Slices of numbers, and contracts of package mark's At, bounded, Covers, Compare. -/
namespace Go.Proofs.YtkomfenjeoaelaaDoor
open Go.RowKit Go.Proofs.YtkomfenjeoaelaaDoor.Vi Go.Proofs.YtkomfenjeoaelaaDoor.Mk

/-- v is a slice of the numbers l, all of them in blocks below B. -/
structure Nums (w : World) (B : Nat) (v : Value) (l : List Int) : Prop where
  shape : ∃ a cap, v = .slice a l.length cap ∧ (l = [] ∨ ∃ b off, a = some ⟨b, off, none⟩ ∧ b < B ∧ ∀ j (h : j < l.length), w.cell? ⟨b, off + j, none⟩ = some (.int .i64 l[j]))
  wide : ∀ n ∈ l, -9223372036854775808 ≤ n ∧ n ≤ 9223372036854775807
  size : l.length ≤ 9223372036854775807
  room : B ≤ w.heap.size
theorem Nums.slice {w : World} {B : Nat} {v : Value} {l : List Int} (h : Nums w B v l) : ∃ a cap, v = .slice a l.length cap := by
  obtain ⟨⟨a, cap, h1, _⟩, _⟩ := h; exact ⟨a, cap, h1⟩
theorem Nums.mono {w : World} {B B' : Nat} {v : Value} {l : List Int} (h : Nums w B v l) (hB : B ≤ B') (hw : B' ≤ w.heap.size) : Nums w B' v l := by
  obtain ⟨⟨a, cap, h1, h2⟩, h3, h4, _⟩ := h
  refine ⟨⟨a, cap, h1, ?_⟩, h3, h4, hw⟩
  rcases h2 with h | ⟨b, off, e, hb, hc⟩
  · exact Or.inl h
  · exact Or.inr ⟨b, off, e, by omega, hc⟩
theorem Nums.below {w w' : World} {B : Nat} {v : Value} {l : List Int} (h : Nums w B v l) (k : Below B w w') : Nums w' B v l := by
  obtain ⟨⟨a, cap, h1, h2⟩, h3, h4, h5⟩ := h
  refine ⟨⟨a, cap, h1, ?_⟩, h3, h4, Nat.le_trans h5 k.size⟩
  rcases h2 with h | ⟨b, off, e, hb, hc⟩
  · exact Or.inl h
  · exact Or.inr ⟨b, off, e, hb, fun j hj => (k.cell (p := ⟨b, off + j, none⟩) hb).trans (hc j hj)⟩
theorem Nums.nil (w : World) (a : Option Addr) (cap : Nat) : Nums w 0 (.slice a 0 cap) [] := ⟨⟨a, cap, rfl, Or.inl rfl⟩, fun n h => (by simp at h), by simp, Nat.zero_le _⟩
theorem Nums.next {w w' : World} {B : Nat} {v : Value} {l : List Int} (h : Nums w B v l) (k : Below w.heap.size w w') : Nums w' B v l := h.below (k.mono h.room)

end Go.Proofs.YtkomfenjeoaelaaDoor

/- Contracts of package mark's vector, one for each closure that it is handed. -/
namespace Go.Proofs.YtkomfenjeoaelaaDoor
open Go.RowKit Go.Proofs.YtkomfenjeoaelaaDoor.Vi Go.Proofs.YtkomfenjeoaelaaDoor.Mk

/-- Block b has eight cells that may be written, and the first k of them hold g. -/
structure Eight (w : World) (b : Nat) (g : Nat → Int) (k : Nat) : Prop where
  cells : ∀ j, j < 8 → ∃ v, w.cell? ⟨b, j, none⟩ = some v ∧ (j < k → v = .int .i64 (g j))
  free : ∀ j, j < 8 → w.frozen? ⟨b, j, none⟩ = false
theorem Eight.room {w : World} {b k : Nat} {g : Nat → Int} (h : Eight w b g k) : b < w.heap.size := by
  obtain ⟨v, hv, _⟩ := h.cells 0 (by omega)
  exact World.block_lt_of_cell? w _ hv
theorem Eight.but {w w' : World} {b d k : Nat} {g : Nat → Int} (h : Eight w b g k) (hB : But d w w') (hd : b ≠ d) : Eight w' b g k :=
  ⟨fun j hj => by rw [hB.cell (p := ⟨b, j, none⟩) hd h.room]; exact h.cells j hj, fun j hj => by rw [hB.frozen (p := ⟨b, j, none⟩) hd h.room]; exact h.free j hj⟩
theorem Eight.step {w : World} {b k : Nat} {g : Nat → Int} (h : Eight w b g k) (_hk : k < 8) : Eight (w.setCell ⟨b, k, none⟩ (.int .i64 (g k))) b g (k + 1) := by
  refine ⟨fun j hj => ?_, fun j hj => by simp [go_sem, h.free j hj]⟩
  obtain ⟨v, hv, hg⟩ := h.cells j hj
  by_cases e : j = k
  · subst e
    exact ⟨_, World.cell?_setCell_same _ _ _ hv, fun _ => rfl⟩
  · refine ⟨v, ?_, fun hl => hg (by omega)⟩
    rw [World.cell?_setCell_other]
    · exact hv
    · intro e2; exact e (congrArg Addr.off e2).symm
theorem Eight.get {w : World} {b k : Nat} {g : Nat → Int} (h : Eight w b g k) (j : Nat) (hj : j < 8) (hk : j < k) : w.cell? ⟨b, j, none⟩ = some (.int .i64 (g j)) := by
  obtain ⟨v, hv, hg⟩ := h.cells j hj
  rw [hv, hg hk]
theorem Eight.new (w : World) (g : Nat → Int) (T : TypeId) : Eight (w.alloc (.cells #[.int .i64 0, .int .i64 0, .int .i64 0, .int .i64 0, .int .i64 0, .int .i64 0, .int .i64 0, .int .i64 0] T)) w.heap.size g 0 := by
  refine ⟨fun j hj => ⟨.int .i64 0, ?_, fun h => absurd h (Nat.not_lt_zero _)⟩, fun j _ => by simp [go_sem]⟩
  match j, hj with
  | 0, _ | 1, _ | 2, _ | 3, _ | 4, _ | 5, _ | 6, _ | 7, _ => simp [go_sem]
theorem But.self (w : World) (b : Nat) (o : Nat) (v : Value) : But b w (w.setCell ⟨b, o, none⟩ v) := (But.refl b w).setCell o v
/-- What vector leaves: a new slice of the vector's numbers. -/
def VecDone (g : Nat → Int) (J : Nat → World → Prop) (w : World) (e : Ending) (w' : World) : Prop :=
  e = .returned (.slice (some ⟨w.heap.size, 0, none⟩) (upto g 8) (upto g 8)) ∧ Eight w' w.heap.size g 8 ∧ J 8 w'
theorem upto_yes {g : Nat → Int} {k : Nat} (h : 0 < g k) : upto g (k + 1) = k + 1 := if_pos h
theorem upto_no {g : Nat → Int} {k : Nat} (h : ¬ 0 < g k) : upto g (k + 1) = upto g k := if_neg h


end Go.Proofs.YtkomfenjeoaelaaDoor

/- Contracts of package mark's normal, Join, Meet, With. -/
namespace Go.Proofs.YtkomfenjeoaelaaDoor
open Go.RowKit Go.Proofs.YtkomfenjeoaelaaDoor.Vi Go.Proofs.YtkomfenjeoaelaaDoor.Mk

/-- A new slice of the numbers l, and nothing that was there has turned. -/
def VDone (l : List Int) (w : World) (e : Ending) (w' : World) : Prop := ∃ v, e = .returned v ∧ Nums w' w'.heap.size v l ∧ Below w.heap.size w w'
theorem nums_of_eight {w : World} {b : Nat} {g : Nat → Int} (h : Eight w b g 8) (hf : Fit g) : Nums w w.heap.size (.slice (some ⟨b, 0, none⟩) (upto g 8) (upto g 8)) (vec g) := by
  refine ⟨⟨_, _, by rw [vec_length], Or.inr ⟨b, 0, rfl, h.room, fun j hj => ?_⟩⟩, fun n hn => ?_, ?_, Nat.le_refl _⟩
  · rw [vec_length] at hj
    have := upto_le g 8
    rw [vec_get, Nat.zero_add]
    exact h.get j (by omega) (by omega)
  · have := vec_fit hf n hn; omega
  · have := vec_size g; omega
theorem cl_fit {f : Nat → Int} (h : ∀ i, 0 ≤ f i ∧ f i ≤ 1099511627776) : (fun i => cl (f i)) = f := funext fun i => cl_in (h i).1 (h i).2
theorem keepJ {W u u' : World} (h : Below W.heap.size W u) (k : But W.heap.size u u') (hz : W.heap.size ≤ u.heap.size) : Below W.heap.size W u' := h.trans (k.below (Nat.le_refl _) hz)

theorem withF (a : List Int) (s n : Int) : (fun i : Nat => cl (if (i : Int) = s then n else atL a (i : Int))) = fun i : Nat => if (i : Int) = s then cl n else atL a (i : Int) := by
  funext i
  by_cases h : (i : Int) = s
  · rw [if_pos h, if_pos h]
  · rw [if_neg h, if_neg h, cl_in (atL_bounds a _).1 (atL_bounds a _).2]
end Go.Proofs.YtkomfenjeoaelaaDoor

/- Contracts of package mark's Covers, Compare, Right, Text, of slices.Equal, and of the document's Same. -/
namespace Go.Proofs.YtkomfenjeoaelaaDoor
open Go.RowKit Go.Proofs.YtkomfenjeoaelaaDoor.Vi Go.Proofs.YtkomfenjeoaelaaDoor.Mk

/-- Whether two lists are the same. -/
def sameL (a b : List Int) : Bool := decide (a = b)
theorem sameL_len {a b : List Int} (h : a.length ≠ b.length) : sameL a b = false := by
  unfold sameL; simp; intro e; exact h (by rw [e])
theorem sameL_no {a b : List Int} {k : Nat} (h1 : k < a.length) (h2 : k < b.length) (h : a[k] ≠ b[k]) : sameL a b = false := by
  unfold sameL; simp; rintro rfl; exact h rfl
theorem sameL_yes {a b : List Int} (hl : a.length = b.length) (h : ∀ j (h1 : j < a.length) (h2 : j < b.length), a[j] = b[j]) : sameL a b = true := by
  unfold sameL; simp; exact List.ext_getElem hl h
theorem Nums.cell {w : World} {B : Nat} {a : Option Addr} {len cap : Nat} {l : List Int} (h : Nums w B (.slice a len cap) l) (h0 : 0 < l.length) : len = l.length ∧ ∃ b off, a = some ⟨b, off, none⟩ ∧ ∀ j (h : j < l.length), w.cell? ⟨b, off + j, none⟩ = some (.int .i64 l[j]) := by
  obtain ⟨⟨a', cap', h1, h2⟩, _⟩ := h
  injection h1 with e1 e2 e3
  subst e1 e2
  rcases h2 with rfl | ⟨b, off, h3, _, h4⟩
  · simp at h0
  · exact ⟨rfl, b, off, h3, h4⟩

-- TWICE

/-- At most twelve numbers of it. -/
def CutN (B : Nat) (l : List Int) (w : World) (e : Ending) (w' : World) : Prop := ∃ v', e = .returned v' ∧ Nums w B v' (l.take 12) ∧ w = w'
/-- The bytes of numbers, one behind the other. -/
def encL (l : List Int) : List UInt8 := l.flatMap fun n => enc n.toNat
def textL (l : List Int) : List UInt8 := enc l.length ++ encL l
theorem encL_snoc (l : List Int) (k : Nat) (h : k < l.length) : encL (l.take (k + 1)) = encL (l.take k) ++ enc (l[k]).toNat := by
  unfold encL
  rw [List.take_succ_eq_append_getElem h, List.flatMap_append]; simp
theorem encL_len (l : List Int) (h : ∀ n ∈ l, 0 ≤ n ∧ n ≤ 1099511627776) : (encL l).length ≤ 10 * l.length := by
  induction l with
  | nil => simp [encL]
  | cons a t ih =>
    have h1 := ih fun n hn => h n (List.mem_cons_of_mem _ hn)
    have h2 := h a (List.mem_cons_self ..)
    have h3 := enc_len10 a.toNat (by omega)
    have e : encL (a :: t) = enc a.toNat ++ encL t := by simp [encL]
    rw [e, List.length_append, List.length_cons]; omega
theorem textL_len (l : List Int) (h : ∀ n ∈ l, 0 ≤ n ∧ n ≤ 1099511627776) (hl : l.length ≤ 8) : (textL l).length ≤ 90 := by
  have h1 := encL_len l h
  have h2 := enc_len10 l.length (by omega)
  unfold textL; rw [List.length_append]; omega
theorem putInt (n : Int) (s : ByteArray) (w : World) (h0 : 0 ≤ n) (h1 : n ≤ 1099511627776) (hs : Hid (tx (enc n.toNat) = s)) : Calls Tryd.prog 46 #[.int .u64 n] w (TextDone s w) := by
  have := put_is n.toNat s w (by omega) hs
  rw [Int.toNat_of_nonneg h0] at this
  exact this
theorem putIntR (n : Int) (s : ByteArray) (w : World) (h0 : 0 ≤ n) (h1 : n ≤ 1099511627776) (hs : Hid (tx (enc n.toNat) = s)) : Calls Tryd.prog 51 #[.int .u64 n] w (TextDone s w) := by
  have := refPut_is n.toNat s w (by omega) hs
  rw [Int.toNat_of_nonneg h0] at this
  exact this
theorem u64_in (n : Int) (h0 : 0 ≤ n) (h1 : n ≤ 1099511627776) : IntKind.u64.wrap n = n := by rw [IntKind.wrap_u64]; omega

end Go.Proofs.YtkomfenjeoaelaaDoor

/- Contracts of Bytes and Take, of package mark and of the document. -/
namespace Go.Proofs.YtkomfenjeoaelaaDoor
open Go.RowKit Go.Proofs.YtkomfenjeoaelaaDoor.Vi Go.Proofs.YtkomfenjeoaelaaDoor.Mk

/-- A stamp's bytes. -/
def St.bytes (a : St) : List UInt8 := if a.ok then enc a.c.toNat ++ enc a.s.toNat ++ enc a.q.toNat else []
theorem St.bytes_yes {a : St} (h : a.ok = true) : a.bytes = enc a.c.toNat ++ enc a.s.toNat ++ enc a.q.toNat := if_pos h
theorem St.bytes_no {a : St} (h : a.ok = false) : a.bytes = [] := by unfold St.bytes; rw [if_neg]; simp [h]
theorem St.ok_iff {a : St} : a.ok = true ↔ 1 ≤ a.c ∧ a.c ≤ 1099511627776 ∧ 0 ≤ a.s ∧ a.s ≤ 7 ∧ 1 ≤ a.q ∧ a.q ≤ 1099511627776 := by unfold St.ok; simp
theorem checkV (a : St) (x : Int) (hx : Hid (a.err = x)) (w : World) : Calls Tryd.prog 74 #[.agg #[.int .i64 a.c, .int .i64 a.s, .int .i64 a.q]] w fun e w' => e = .returned (.int .i64 x) ∧ Below w.heap.size w w' := by
  have := check_is a w
  rw [hx.out] at this; exact this
theorem rcheckV (a : St) (x : Int) (hx : Hid (a.err = x)) (w : World) : Calls Tryd.prog 81 #[.agg #[.int .i64 a.c, .int .i64 a.s, .int .i64 a.q]] w fun e w' => e = .returned (.int .i64 x) ∧ Below w.heap.size w w' := by
  have := rcheck_is a w
  rw [hx.out] at this; exact this
/-- One stamp in its block. -/
structure Held1 (w : World) (b : Nat) (a : St) (w' : World) : Prop where
  h : StAt w' b a
  bel : Below w.heap.size w w'
theorem Held1.keep {w w1 w2 : World} {b : Nat} {a : St} (h : Held1 w b a w1) (k : Below w1.heap.size w1 w2) : Held1 w b a w2 := ⟨h.h.below k, bel_next h.bel k⟩
theorem Held1.drew {w w1 : World} {b : Nat} {a : St} (h : Held1 w b a w1) : Held1 w b a w1.drew := h.keep ((Below.refl _ _).drew)

set_option maxHeartbeats 4000000 in
theorem bytes_is (a : St) (S : ByteArray) (w : World) (hS : Hid (tx a.bytes = S)) : Calls Tryd.prog 77 #[.agg #[.int .i64 a.c, .int .i64 a.s, .int .i64 a.q]] w (TextDone S w) := by
  have HA := StAt.new w a
  obtain ⟨e0, e1, e2⟩ := HA
  cases hok : a.ok with
  | false =>
    have hk := fun w => checkV a 1 (Lib.hid (by unfold St.err; rw [hok]; rfl)) w
    have hS2 := hS.out
    rw [St.bytes_no hok] at hS2
    clear hS
    go_enter Tryd.func77, Tryd.ntmps77
    go_wp2_with (go_at_call 74; (with_reducible refine (hk _).mono ?_); rintro e w1 ⟨rfl, hb1⟩)
    go_ret
    exact ⟨by rw [← hS2]; rfl, by (repeat (first | exact Below.refl _ _ | refine below_drewN ?_ _ | refine Below.drew ?_ | (refine Below.setCell ?_ (by simp; try omega) _) | refine bel_new ?_ _ | (refine bel_next ?_ (by assumption))))⟩
  | true =>
    have hk := fun w => checkV a 0 (Lib.hid (by unfold St.err; rw [hok]; rfl)) w
    obtain ⟨b1, b2, b3, b4, b5, b6⟩ := St.ok_iff.1 hok
    obtain ⟨s1, hs1⟩ : ∃ s, tx (enc a.c.toNat) = s := ⟨_, rfl⟩
    obtain ⟨s2, hs2⟩ : ∃ s, tx (enc a.s.toNat) = s := ⟨_, rfl⟩
    obtain ⟨s3, hs3⟩ : ∃ s, tx (enc a.q.toNat) = s := ⟨_, rfl⟩
    have p1 := fun w => putInt a.c s1 w (by omega) (by omega) (Lib.hid hs1)
    have p2 := fun w => putInt a.s s2 w (by omega) (by omega) (Lib.hid hs2)
    have p3 := fun w => putInt a.q s3 w (by omega) (by omega) (Lib.hid hs3)
    have z1 : s1.size ≤ 10 := by rw [← hs1, tx_size]; exact enc_len10 _ (by omega)
    have z2 : s2.size ≤ 10 := by rw [← hs2, tx_size]; exact enc_len10 _ (by omega)
    have z3 : s3.size ≤ 10 := by rw [← hs3, tx_size]; exact enc_len10 _ (by omega)
    obtain ⟨x1, hx1⟩ : ∃ s, s1 ++ s2 = s := ⟨_, rfl⟩
    obtain ⟨x2, hx2⟩ : ∃ s, x1 ++ s3 = s := ⟨_, rfl⟩
    have hSx : x2 = S := by rw [← hS.out, St.bytes_yes hok, ← hx2, ← hx1, ← hs1, ← hs2, ← hs3, tx_app, tx_app]
    have hzx : x1.size = s1.size + s2.size := by rw [← hx1]; simp
    have hq1 : s1.size + s2.size ≤ 9223372036854775807 := by omega
    have hq2 : x1.size + s3.size ≤ 9223372036854775807 := by omega
    have hq3 : ¬ 9223372036854775807 < s1.size + s2.size := by omega
    have hq4 : ¬ 9223372036854775807 < x1.size + s3.size := by omega
    have w1 := u64_in a.c (by omega) (by omega)
    have w2 := u64_in a.s (by omega) (by omega)
    have w3 := u64_in a.q (by omega) (by omega)
    clear hS hs1 hs2 hs3 hzx z1 z2 z3 b1 b2 b3 b4 b5 b6
    go_enter Tryd.func77, Tryd.ntmps77
    go_wp2_with (go_at_call 74; (with_reducible refine (hk _).mono ?_); rintro e w1 ⟨rfl, hb1⟩)
    have hH : Held1 w w.heap.size a w1 := ⟨StAt.below ⟨e0, e1, e2⟩ hb1, by (repeat (first | exact Below.refl _ _ | refine below_drewN ?_ _ | refine Below.drew ?_ | (refine Below.setCell ?_ (by simp; try omega) _) | refine bel_new ?_ _ | (refine bel_next ?_ (by assumption))))⟩
    clear hb1 e0 e1 e2
    refine wp_region_held_drew (S := (Held1 w w.heap.size a)) (by kernel_rfl) hH.drew (fun hHeld => ?_)
    refine wpAnyH_take (i := 0) (oi := ?obytes1o) (v := ?obytes1v) ?obytes1h (by kernel_rfl) (by kernel_rfl) (by kernel_rfl) ?obytes1q ?obytes1y hHeld ?obytes1r
    case obytes1h => (simp only [List.getElem?_toArray, List.getElem?_cons_zero]; rfl)
    case obytes1q => exact fun _ _ _ h => h
    case obytes1y => (refine Or.inl ⟨by first | kernel_rfl | rfl, ?_⟩; intro w hSw; (try dsimp only at hSw); obtain ⟨⟨x0, y0, z0⟩, -⟩ := hSw; go_simp <;> (try with_reducible rfl))
    try simp only [Act.put, List.setIfInBounds_toArray, List.set_cons_zero, List.set_cons_succ]
    refine wpAnyH_take (i := 1) (oi := ?obytes2o) (v := ?obytes2v) ?obytes2h (by kernel_rfl) (by kernel_rfl) (by kernel_rfl) ?obytes2q ?obytes2y hHeld ?obytes2r
    case obytes2h => (simp only [List.getElem?_toArray, List.getElem?_cons_succ, List.getElem?_cons_zero]; rfl)
    case obytes2q => exact fun _ _ _ h => h
    case obytes2y => (refine Or.inl ⟨by first | kernel_rfl | rfl, ?_⟩; intro w hSw; (try dsimp only at hSw); obtain ⟨⟨x0, y0, z0⟩, -⟩ := hSw; go_simp <;> (try with_reducible rfl))
    try simp only [Act.put, List.setIfInBounds_toArray, List.set_cons_zero, List.set_cons_succ]
    refine wpAnyH_take (i := 2) (oi := ?obytes3o) (v := ?obytes3v) ?obytes3h (by kernel_rfl) (by kernel_rfl) (by kernel_rfl) ?obytes3q ?obytes3y hHeld ?obytes3r
    case obytes3h => (simp only [List.getElem?_toArray, List.getElem?_cons_succ, List.getElem?_cons_zero]; rfl)
    case obytes3q => exact fun _ _ _ h => h
    case obytes3y => (refine Or.inl ⟨by first | kernel_rfl | rfl, ?_⟩; intro w hSw; (try dsimp only at hSw); obtain ⟨⟨x0, y0, z0⟩, -⟩ := hSw; go_simp <;> (try with_reducible rfl))
    try simp only [Act.put, List.setIfInBounds_toArray, List.set_cons_zero, List.set_cons_succ]
    refine wpAnyH_take (i := 4) (oi := ?obytes4o) (v := ?obytes4v) ?obytes4h (by kernel_rfl) (by kernel_rfl) (by kernel_rfl) ?obytes4q ?obytes4y hHeld ?obytes4r
    case obytes4h => (simp only [List.getElem?_toArray, List.getElem?_cons_succ, List.getElem?_cons_zero]; rfl)
    case obytes4q => exact fun _ _ _ h => h
    case obytes4y => (refine Or.inl ⟨by first | kernel_rfl | rfl, ?_⟩; intro w hSw; (try dsimp only at hSw); obtain ⟨⟨x0, y0, z0⟩, -⟩ := hSw; go_simp <;> (try with_reducible rfl))
    try simp only [Act.put, List.setIfInBounds_toArray, List.set_cons_zero, List.set_cons_succ]
    refine wpAnyH_take (i := 5) (oi := ?obytes5o) (v := ?obytes5v) ?obytes5h (by kernel_rfl) (by kernel_rfl) (by kernel_rfl) ?obytes5q ?obytes5y hHeld ?obytes5r
    case obytes5h => (simp only [List.getElem?_toArray, List.getElem?_cons_succ, List.getElem?_cons_zero]; rfl)
    case obytes5q => exact fun _ _ _ h => h
    case obytes5y => (refine Or.inl ⟨by first | kernel_rfl | rfl, ?_⟩; intro w hSw; (try dsimp only at hSw); obtain ⟨⟨x0, y0, z0⟩, -⟩ := hSw; go_simp <;> (try with_reducible rfl))
    try simp only [Act.put, List.setIfInBounds_toArray, List.set_cons_zero, List.set_cons_succ]
    refine wpAnyH_take (i := 6) (oi := ?obytes6o) (v := ?obytes6v) ?obytes6h (by kernel_rfl) (by kernel_rfl) (by kernel_rfl) ?obytes6q ?obytes6y hHeld ?obytes6r
    case obytes6h => (simp only [List.getElem?_toArray, List.getElem?_cons_succ, List.getElem?_cons_zero]; rfl)
    case obytes6q => exact fun _ _ _ h => h
    case obytes6y => (refine Or.inl ⟨by first | kernel_rfl | rfl, ?_⟩; intro w hSw; (try dsimp only at hSw); obtain ⟨⟨x0, y0, z0⟩, -⟩ := hSw; go_simp <;> (try with_reducible rfl))
    try simp only [Act.put, List.setIfInBounds_toArray, List.set_cons_zero, List.set_cons_succ]
    refine wpAnyH_take (i := 9) (oi := ?obytes7o) (v := ?obytes7v) ?obytes7h (by kernel_rfl) (by kernel_rfl) (by kernel_rfl) ?obytes7q ?obytes7y hHeld ?obytes7r
    case obytes7h => (simp only [List.getElem?_toArray, List.getElem?_cons_succ, List.getElem?_cons_zero]; rfl)
    case obytes7q => exact fun _ _ _ h => h
    case obytes7y => (refine Or.inl ⟨by first | kernel_rfl | rfl, ?_⟩; intro w hSw; (try dsimp only at hSw); obtain ⟨⟨x0, y0, z0⟩, -⟩ := hSw; go_simp <;> (try with_reducible rfl))
    try simp only [Act.put, List.setIfInBounds_toArray, List.set_cons_zero, List.set_cons_succ]
    refine wpAnyH_take (i := 10) (oi := ?obytes8o) (v := ?obytes8v) ?obytes8h (by kernel_rfl) (by kernel_rfl) (by kernel_rfl) ?obytes8q ?obytes8y hHeld ?obytes8r
    case obytes8h => (simp only [List.getElem?_toArray, List.getElem?_cons_succ, List.getElem?_cons_zero]; rfl)
    case obytes8q => exact fun _ _ _ h => h
    case obytes8y => (refine Or.inl ⟨by first | kernel_rfl | rfl, ?_⟩; intro w hSw; (try dsimp only at hSw); obtain ⟨⟨x0, y0, z0⟩, -⟩ := hSw; go_simp <;> (try with_reducible rfl))
    try simp only [Act.put, List.setIfInBounds_toArray, List.set_cons_zero, List.set_cons_succ]
    refine wpAnyH_take (i := 11) (oi := ?obytes9o) (v := ?obytes9v) ?obytes9h (by kernel_rfl) (by kernel_rfl) (by kernel_rfl) ?obytes9q ?obytes9y hHeld ?obytes9r
    case obytes9h => (simp only [List.getElem?_toArray, List.getElem?_cons_succ, List.getElem?_cons_zero]; rfl)
    case obytes9q => exact fun _ _ _ h => h
    case obytes9y => (refine Or.inl ⟨by first | kernel_rfl | rfl, ?_⟩; intro w hSw; (try dsimp only at hSw); obtain ⟨⟨x0, y0, z0⟩, -⟩ := hSw; go_simp <;> (try with_reducible rfl))
    try simp only [Act.put, List.setIfInBounds_toArray, List.set_cons_zero, List.set_cons_succ]
    refine wpAnyH_ready (rs := [3]) (by kernel_rfl) (by simp) ?_
    refine (AllReadyH.cons rfl (fun K hK => ?_) AllReadyH.nil)
    go_simp
    ((with_reducible refine (p1 _).mono ?_); rintro e w' ⟨rfl, hb'⟩)
    refine hK.out _ _ (hHeld.keep hb') (fun hHeld => ?_)
    clear hK K
    try simp only [Act.put, List.setIfInBounds_toArray, List.set_cons_zero, List.set_cons_succ]
    refine wpAnyH_ready (rs := [7]) (by kernel_rfl) (by simp) ?_
    refine (AllReadyH.cons rfl (fun K hK => ?_) AllReadyH.nil)
    go_simp
    ((with_reducible refine (p2 _).mono ?_); rintro e w' ⟨rfl, hb'⟩)
    refine hK.out _ _ (hHeld.keep hb') (fun hHeld => ?_)
    clear hK K
    try simp only [Act.put, List.setIfInBounds_toArray, List.set_cons_zero, List.set_cons_succ]
    refine wpAnyH_take (i := 8) (oi := ?obytes10o) (v := ?obytes10v) ?obytes10h (by kernel_rfl) (by kernel_rfl) (by kernel_rfl) ?obytes10q ?obytes10y hHeld ?obytes10r
    case obytes10h => (simp only [List.getElem?_toArray, List.getElem?_cons_succ, List.getElem?_cons_zero]; rfl)
    case obytes10q => exact fun _ _ _ h => h
    case obytes10y => (refine Or.inl ⟨by first | kernel_rfl | rfl, ?_⟩; intro w hSw; (try dsimp only at hSw); obtain ⟨⟨x0, y0, z0⟩, -⟩ := hSw; go_simp <;> (try with_reducible rfl))
    try simp only [Act.put, List.setIfInBounds_toArray, List.set_cons_zero, List.set_cons_succ]
    refine wpAnyH_ready (rs := [12]) (by kernel_rfl) (by simp) ?_
    refine (AllReadyH.cons rfl (fun K hK => ?_) AllReadyH.nil)
    go_simp
    ((with_reducible refine (p3 _).mono ?_); rintro e w' ⟨rfl, hb'⟩)
    refine hK.out _ _ (hHeld.keep hb') (fun hHeld => ?_)
    clear hK K
    try simp only [Act.put, List.setIfInBounds_toArray, List.set_cons_zero, List.set_cons_succ]
    refine wpAnyH_take (i := 13) (oi := ?obytes11o) (v := ?obytes11v) ?obytes11h (by kernel_rfl) (by kernel_rfl) (by kernel_rfl) ?obytes11q ?obytes11y hHeld ?obytes11r
    case obytes11h => (simp only [List.getElem?_toArray, List.getElem?_cons_succ, List.getElem?_cons_zero]; rfl)
    case obytes11q => exact fun _ _ _ h => h
    case obytes11y => (refine Or.inl ⟨by first | kernel_rfl | rfl, ?_⟩; intro w hSw; (try dsimp only at hSw); obtain ⟨⟨x0, y0, z0⟩, -⟩ := hSw; go_simp <;> (try with_reducible rfl))
    try simp only [Act.put, List.setIfInBounds_toArray, List.set_cons_zero, List.set_cons_succ]
    refine wpAnyH_take (i := 14) (oi := ?obytes12o) (v := ?obytes12v) ?obytes12h (by kernel_rfl) (by kernel_rfl) (by kernel_rfl) ?obytes12q ?obytes12y hHeld ?obytes12r
    case obytes12h => (simp only [List.getElem?_toArray, List.getElem?_cons_succ, List.getElem?_cons_zero]; rfl)
    case obytes12q => exact fun _ _ _ h => h
    case obytes12y => (refine Or.inl ⟨by first | kernel_rfl | rfl, ?_⟩; intro w hSw; (try dsimp only at hSw); obtain ⟨⟨x0, y0, z0⟩, -⟩ := hSw; go_simp <;> (try with_reducible rfl))
    try simp only [Act.put, List.setIfInBounds_toArray, List.set_cons_zero, List.set_cons_succ]
    refine wpAnyH_done (by kernel_rfl) ?_ _
    have hbel := hHeld.bel
    go_wp2
    go_ret
    exact ⟨by rw [← hSx]; rfl, hbel⟩

set_option maxHeartbeats 4000000 in
theorem rbytes_is (a : St) (S : ByteArray) (w : World) (hS : Hid (tx a.bytes = S)) : Calls Tryd.prog 54 #[.agg #[.int .i64 a.c, .int .i64 a.s, .int .i64 a.q]] w (TextDone S w) := by
  have HA := StAt.new w a
  obtain ⟨e0, e1, e2⟩ := HA
  cases hok : a.ok with
  | false =>
    have hk := fun w => rcheckV a 1 (Lib.hid (by unfold St.err; rw [hok]; rfl)) w
    have hS2 := hS.out
    rw [St.bytes_no hok] at hS2
    clear hS
    go_enter Tryd.func54, Tryd.ntmps54
    go_wp2_with (go_at_call 81; (with_reducible refine (hk _).mono ?_); rintro e w1 ⟨rfl, hb1⟩)
    go_ret
    exact ⟨by rw [← hS2]; rfl, by (repeat (first | exact Below.refl _ _ | refine below_drewN ?_ _ | refine Below.drew ?_ | (refine Below.setCell ?_ (by simp; try omega) _) | refine bel_new ?_ _ | (refine bel_next ?_ (by assumption))))⟩
  | true =>
    have hk := fun w => rcheckV a 0 (Lib.hid (by unfold St.err; rw [hok]; rfl)) w
    obtain ⟨b1, b2, b3, b4, b5, b6⟩ := St.ok_iff.1 hok
    obtain ⟨s1, hs1⟩ : ∃ s, tx (enc a.c.toNat) = s := ⟨_, rfl⟩
    obtain ⟨s2, hs2⟩ : ∃ s, tx (enc a.s.toNat) = s := ⟨_, rfl⟩
    obtain ⟨s3, hs3⟩ : ∃ s, tx (enc a.q.toNat) = s := ⟨_, rfl⟩
    have p1 := fun w => putIntR a.c s1 w (by omega) (by omega) (Lib.hid hs1)
    have p2 := fun w => putIntR a.s s2 w (by omega) (by omega) (Lib.hid hs2)
    have p3 := fun w => putIntR a.q s3 w (by omega) (by omega) (Lib.hid hs3)
    have z1 : s1.size ≤ 10 := by rw [← hs1, tx_size]; exact enc_len10 _ (by omega)
    have z2 : s2.size ≤ 10 := by rw [← hs2, tx_size]; exact enc_len10 _ (by omega)
    have z3 : s3.size ≤ 10 := by rw [← hs3, tx_size]; exact enc_len10 _ (by omega)
    obtain ⟨x1, hx1⟩ : ∃ s, s1 ++ s2 = s := ⟨_, rfl⟩
    obtain ⟨x2, hx2⟩ : ∃ s, x1 ++ s3 = s := ⟨_, rfl⟩
    have hSx : x2 = S := by rw [← hS.out, St.bytes_yes hok, ← hx2, ← hx1, ← hs1, ← hs2, ← hs3, tx_app, tx_app]
    have hzx : x1.size = s1.size + s2.size := by rw [← hx1]; simp
    have hq1 : s1.size + s2.size ≤ 9223372036854775807 := by omega
    have hq2 : x1.size + s3.size ≤ 9223372036854775807 := by omega
    have hq3 : ¬ 9223372036854775807 < s1.size + s2.size := by omega
    have hq4 : ¬ 9223372036854775807 < x1.size + s3.size := by omega
    have w1 := u64_in a.c (by omega) (by omega)
    have w2 := u64_in a.s (by omega) (by omega)
    have w3 := u64_in a.q (by omega) (by omega)
    clear hS hs1 hs2 hs3 hzx z1 z2 z3 b1 b2 b3 b4 b5 b6
    go_enter Tryd.func54, Tryd.ntmps54
    go_wp2_with (go_at_call 81; (with_reducible refine (hk _).mono ?_); rintro e w1 ⟨rfl, hb1⟩)
    have hH : Held1 w w.heap.size a w1 := ⟨StAt.below ⟨e0, e1, e2⟩ hb1, by (repeat (first | exact Below.refl _ _ | refine below_drewN ?_ _ | refine Below.drew ?_ | (refine Below.setCell ?_ (by simp; try omega) _) | refine bel_new ?_ _ | (refine bel_next ?_ (by assumption))))⟩
    clear hb1 e0 e1 e2
    refine wp_region_held_drew (S := (Held1 w w.heap.size a)) (by kernel_rfl) hH.drew (fun hHeld => ?_)
    refine wpAnyH_take (i := 0) (oi := ?orbytes1o) (v := ?orbytes1v) ?orbytes1h (by kernel_rfl) (by kernel_rfl) (by kernel_rfl) ?orbytes1q ?orbytes1y hHeld ?orbytes1r
    case orbytes1h => (simp only [List.getElem?_toArray, List.getElem?_cons_zero]; rfl)
    case orbytes1q => exact fun _ _ _ h => h
    case orbytes1y => (refine Or.inl ⟨by first | kernel_rfl | rfl, ?_⟩; intro w hSw; (try dsimp only at hSw); obtain ⟨⟨x0, y0, z0⟩, -⟩ := hSw; go_simp <;> (try with_reducible rfl))
    try simp only [Act.put, List.setIfInBounds_toArray, List.set_cons_zero, List.set_cons_succ]
    refine wpAnyH_take (i := 1) (oi := ?orbytes2o) (v := ?orbytes2v) ?orbytes2h (by kernel_rfl) (by kernel_rfl) (by kernel_rfl) ?orbytes2q ?orbytes2y hHeld ?orbytes2r
    case orbytes2h => (simp only [List.getElem?_toArray, List.getElem?_cons_succ, List.getElem?_cons_zero]; rfl)
    case orbytes2q => exact fun _ _ _ h => h
    case orbytes2y => (refine Or.inl ⟨by first | kernel_rfl | rfl, ?_⟩; intro w hSw; (try dsimp only at hSw); obtain ⟨⟨x0, y0, z0⟩, -⟩ := hSw; go_simp <;> (try with_reducible rfl))
    try simp only [Act.put, List.setIfInBounds_toArray, List.set_cons_zero, List.set_cons_succ]
    refine wpAnyH_take (i := 2) (oi := ?orbytes3o) (v := ?orbytes3v) ?orbytes3h (by kernel_rfl) (by kernel_rfl) (by kernel_rfl) ?orbytes3q ?orbytes3y hHeld ?orbytes3r
    case orbytes3h => (simp only [List.getElem?_toArray, List.getElem?_cons_succ, List.getElem?_cons_zero]; rfl)
    case orbytes3q => exact fun _ _ _ h => h
    case orbytes3y => (refine Or.inl ⟨by first | kernel_rfl | rfl, ?_⟩; intro w hSw; (try dsimp only at hSw); obtain ⟨⟨x0, y0, z0⟩, -⟩ := hSw; go_simp <;> (try with_reducible rfl))
    try simp only [Act.put, List.setIfInBounds_toArray, List.set_cons_zero, List.set_cons_succ]
    refine wpAnyH_take (i := 4) (oi := ?orbytes4o) (v := ?orbytes4v) ?orbytes4h (by kernel_rfl) (by kernel_rfl) (by kernel_rfl) ?orbytes4q ?orbytes4y hHeld ?orbytes4r
    case orbytes4h => (simp only [List.getElem?_toArray, List.getElem?_cons_succ, List.getElem?_cons_zero]; rfl)
    case orbytes4q => exact fun _ _ _ h => h
    case orbytes4y => (refine Or.inl ⟨by first | kernel_rfl | rfl, ?_⟩; intro w hSw; (try dsimp only at hSw); obtain ⟨⟨x0, y0, z0⟩, -⟩ := hSw; go_simp <;> (try with_reducible rfl))
    try simp only [Act.put, List.setIfInBounds_toArray, List.set_cons_zero, List.set_cons_succ]
    refine wpAnyH_take (i := 5) (oi := ?orbytes5o) (v := ?orbytes5v) ?orbytes5h (by kernel_rfl) (by kernel_rfl) (by kernel_rfl) ?orbytes5q ?orbytes5y hHeld ?orbytes5r
    case orbytes5h => (simp only [List.getElem?_toArray, List.getElem?_cons_succ, List.getElem?_cons_zero]; rfl)
    case orbytes5q => exact fun _ _ _ h => h
    case orbytes5y => (refine Or.inl ⟨by first | kernel_rfl | rfl, ?_⟩; intro w hSw; (try dsimp only at hSw); obtain ⟨⟨x0, y0, z0⟩, -⟩ := hSw; go_simp <;> (try with_reducible rfl))
    try simp only [Act.put, List.setIfInBounds_toArray, List.set_cons_zero, List.set_cons_succ]
    refine wpAnyH_take (i := 6) (oi := ?orbytes6o) (v := ?orbytes6v) ?orbytes6h (by kernel_rfl) (by kernel_rfl) (by kernel_rfl) ?orbytes6q ?orbytes6y hHeld ?orbytes6r
    case orbytes6h => (simp only [List.getElem?_toArray, List.getElem?_cons_succ, List.getElem?_cons_zero]; rfl)
    case orbytes6q => exact fun _ _ _ h => h
    case orbytes6y => (refine Or.inl ⟨by first | kernel_rfl | rfl, ?_⟩; intro w hSw; (try dsimp only at hSw); obtain ⟨⟨x0, y0, z0⟩, -⟩ := hSw; go_simp <;> (try with_reducible rfl))
    try simp only [Act.put, List.setIfInBounds_toArray, List.set_cons_zero, List.set_cons_succ]
    refine wpAnyH_take (i := 9) (oi := ?orbytes7o) (v := ?orbytes7v) ?orbytes7h (by kernel_rfl) (by kernel_rfl) (by kernel_rfl) ?orbytes7q ?orbytes7y hHeld ?orbytes7r
    case orbytes7h => (simp only [List.getElem?_toArray, List.getElem?_cons_succ, List.getElem?_cons_zero]; rfl)
    case orbytes7q => exact fun _ _ _ h => h
    case orbytes7y => (refine Or.inl ⟨by first | kernel_rfl | rfl, ?_⟩; intro w hSw; (try dsimp only at hSw); obtain ⟨⟨x0, y0, z0⟩, -⟩ := hSw; go_simp <;> (try with_reducible rfl))
    try simp only [Act.put, List.setIfInBounds_toArray, List.set_cons_zero, List.set_cons_succ]
    refine wpAnyH_take (i := 10) (oi := ?orbytes8o) (v := ?orbytes8v) ?orbytes8h (by kernel_rfl) (by kernel_rfl) (by kernel_rfl) ?orbytes8q ?orbytes8y hHeld ?orbytes8r
    case orbytes8h => (simp only [List.getElem?_toArray, List.getElem?_cons_succ, List.getElem?_cons_zero]; rfl)
    case orbytes8q => exact fun _ _ _ h => h
    case orbytes8y => (refine Or.inl ⟨by first | kernel_rfl | rfl, ?_⟩; intro w hSw; (try dsimp only at hSw); obtain ⟨⟨x0, y0, z0⟩, -⟩ := hSw; go_simp <;> (try with_reducible rfl))
    try simp only [Act.put, List.setIfInBounds_toArray, List.set_cons_zero, List.set_cons_succ]
    refine wpAnyH_take (i := 11) (oi := ?orbytes9o) (v := ?orbytes9v) ?orbytes9h (by kernel_rfl) (by kernel_rfl) (by kernel_rfl) ?orbytes9q ?orbytes9y hHeld ?orbytes9r
    case orbytes9h => (simp only [List.getElem?_toArray, List.getElem?_cons_succ, List.getElem?_cons_zero]; rfl)
    case orbytes9q => exact fun _ _ _ h => h
    case orbytes9y => (refine Or.inl ⟨by first | kernel_rfl | rfl, ?_⟩; intro w hSw; (try dsimp only at hSw); obtain ⟨⟨x0, y0, z0⟩, -⟩ := hSw; go_simp <;> (try with_reducible rfl))
    try simp only [Act.put, List.setIfInBounds_toArray, List.set_cons_zero, List.set_cons_succ]
    refine wpAnyH_ready (rs := [3]) (by kernel_rfl) (by simp) ?_
    refine (AllReadyH.cons rfl (fun K hK => ?_) AllReadyH.nil)
    go_simp
    ((with_reducible refine (p1 _).mono ?_); rintro e w' ⟨rfl, hb'⟩)
    refine hK.out _ _ (hHeld.keep hb') (fun hHeld => ?_)
    clear hK K
    try simp only [Act.put, List.setIfInBounds_toArray, List.set_cons_zero, List.set_cons_succ]
    refine wpAnyH_ready (rs := [7]) (by kernel_rfl) (by simp) ?_
    refine (AllReadyH.cons rfl (fun K hK => ?_) AllReadyH.nil)
    go_simp
    ((with_reducible refine (p2 _).mono ?_); rintro e w' ⟨rfl, hb'⟩)
    refine hK.out _ _ (hHeld.keep hb') (fun hHeld => ?_)
    clear hK K
    try simp only [Act.put, List.setIfInBounds_toArray, List.set_cons_zero, List.set_cons_succ]
    refine wpAnyH_take (i := 8) (oi := ?orbytes10o) (v := ?orbytes10v) ?orbytes10h (by kernel_rfl) (by kernel_rfl) (by kernel_rfl) ?orbytes10q ?orbytes10y hHeld ?orbytes10r
    case orbytes10h => (simp only [List.getElem?_toArray, List.getElem?_cons_succ, List.getElem?_cons_zero]; rfl)
    case orbytes10q => exact fun _ _ _ h => h
    case orbytes10y => (refine Or.inl ⟨by first | kernel_rfl | rfl, ?_⟩; intro w hSw; (try dsimp only at hSw); obtain ⟨⟨x0, y0, z0⟩, -⟩ := hSw; go_simp <;> (try with_reducible rfl))
    try simp only [Act.put, List.setIfInBounds_toArray, List.set_cons_zero, List.set_cons_succ]
    refine wpAnyH_ready (rs := [12]) (by kernel_rfl) (by simp) ?_
    refine (AllReadyH.cons rfl (fun K hK => ?_) AllReadyH.nil)
    go_simp
    ((with_reducible refine (p3 _).mono ?_); rintro e w' ⟨rfl, hb'⟩)
    refine hK.out _ _ (hHeld.keep hb') (fun hHeld => ?_)
    clear hK K
    try simp only [Act.put, List.setIfInBounds_toArray, List.set_cons_zero, List.set_cons_succ]
    refine wpAnyH_take (i := 13) (oi := ?orbytes11o) (v := ?orbytes11v) ?orbytes11h (by kernel_rfl) (by kernel_rfl) (by kernel_rfl) ?orbytes11q ?orbytes11y hHeld ?orbytes11r
    case orbytes11h => (simp only [List.getElem?_toArray, List.getElem?_cons_succ, List.getElem?_cons_zero]; rfl)
    case orbytes11q => exact fun _ _ _ h => h
    case orbytes11y => (refine Or.inl ⟨by first | kernel_rfl | rfl, ?_⟩; intro w hSw; (try dsimp only at hSw); obtain ⟨⟨x0, y0, z0⟩, -⟩ := hSw; go_simp <;> (try with_reducible rfl))
    try simp only [Act.put, List.setIfInBounds_toArray, List.set_cons_zero, List.set_cons_succ]
    refine wpAnyH_take (i := 14) (oi := ?orbytes12o) (v := ?orbytes12v) ?orbytes12h (by kernel_rfl) (by kernel_rfl) (by kernel_rfl) ?orbytes12q ?orbytes12y hHeld ?orbytes12r
    case orbytes12h => (simp only [List.getElem?_toArray, List.getElem?_cons_succ, List.getElem?_cons_zero]; rfl)
    case orbytes12q => exact fun _ _ _ h => h
    case orbytes12y => (refine Or.inl ⟨by first | kernel_rfl | rfl, ?_⟩; intro w hSw; (try dsimp only at hSw); obtain ⟨⟨x0, y0, z0⟩, -⟩ := hSw; go_simp <;> (try with_reducible rfl))
    try simp only [Act.put, List.setIfInBounds_toArray, List.set_cons_zero, List.set_cons_succ]
    refine wpAnyH_done (by kernel_rfl) ?_ _
    have hbel := hHeld.bel
    go_wp2
    go_ret
    exact ⟨by rw [← hSx]; rfl, hbel⟩

theorem RA.other {w : World} {b : Nat} {r : ByteArray} {br : Bool} (h : RA w b r br) (a : Addr) (v : Value) (hne : a.block ≠ b) : RA (w.setCell a v) b r br :=
  ⟨by rw [World.cell?_setCell_far _ _ _ _ hne]; exact h.c0, by rw [World.cell?_setCell_far _ _ _ _ hne]; exact h.c1, by simp [go_sem, h.f0], by simp [go_sem, h.f1]⟩
theorem But.far {b : Nat} {u w : World} (h : But b u w) (a : Addr) (v : Value) (ha : u.heap.size ≤ a.block) : But b u (w.setCell a v) :=
  ⟨h.os, h.tape, h.output, by simpa [World.setCell] using h.size, fun k hk hb => by rw [← h.block k hk hb]; exact Below.heap_setCell _ _ _ _ (by omega)⟩
theorem Out.but {w w' : World} {b d : Nat} (h : Out w b) (k : But d w w') (hd : b ≠ d) : Out w' b :=
  ⟨(k.cell (p := ⟨b, 0, none⟩) hd h.room).trans h.z0, (k.cell (p := ⟨b, 1, none⟩) hd h.room).trans h.z1, (k.cell (p := ⟨b, 2, none⟩) hd h.room).trans h.z2, (k.frozen (p := ⟨b, 0, none⟩) hd h.room).trans h.y0, (k.frozen (p := ⟨b, 1, none⟩) hd h.room).trans h.y1, (k.frozen (p := ⟨b, 2, none⟩) hd h.room).trans h.y2⟩
theorem StAt.but {w w' : World} {b d : Nat} {a : St} (h : StAt w b a) (k : But d w w') (hd : b ≠ d) : StAt w' b a :=
  ⟨(k.cell (p := ⟨b, 0, none⟩) hd h.room).trans h.c0, (k.cell (p := ⟨b, 1, none⟩) hd h.room).trans h.c1, (k.cell (p := ⟨b, 2, none⟩) hd h.room).trans h.c2⟩
theorem StAt.other {w : World} {b : Nat} {a : St} (h : StAt w b a) (x : Addr) (v : Value) (hne : x.block ≠ b) : StAt (w.setCell x v) b a :=
  ⟨by rw [World.cell?_setCell_far _ _ _ _ hne]; exact h.c0, by rw [World.cell?_setCell_far _ _ _ _ hne]; exact h.c1, by rw [World.cell?_setCell_far _ _ _ _ hne]; exact h.c2⟩
theorem StAt.set {w : World} {b : Nat} {a : St} (h : StAt w b a) (z : St) : StAt (((w.setCell ⟨b, 0, none⟩ (.int .i64 z.c)).setCell ⟨b, 1, none⟩ (.int .i64 z.s)).setCell ⟨b, 2, none⟩ (.int .i64 z.q)) b z := by
  obtain ⟨c0, c1, c2⟩ := h
  exact ⟨by simp [go_sem, c0], by simp [go_sem, c1], by simp [go_sem, c2]⟩
theorem but_new {b : Nat} {w a : World} (h : But b w a) (o : Obj) : But b w (a.alloc o) := h.alloc o
theorem but_next {b : Nat} {w a c : World} (h : But b w a) (k : But b a c) : But b w c := h.trans k
theorem but_bel {b : Nat} {w a c : World} (h : But b w a) (k : Below a.heap.size a c) : But b w c := h.trans (But.of k)

/-- The stamp that three calls of Small answer, and what is left. -/
def takeQ (r : ByteArray) (br : Bool) : St × ByteArray × Bool :=
  let x1 := smallQ r br 1099511627776
  let x2 := smallQ x1.2.1 x1.2.2 7
  let x3 := smallQ x2.2.1 x2.2.2 1099511627776
  if (St.mk x1.1 x2.1 x3.1).ok then (St.mk x1.1 x2.1 x3.1, x3.2.1, x3.2.2) else (⟨0, 0, 0⟩, ⟨#[]⟩, true)
theorem smallQ_inv {r r' : ByteArray} {br br' : Bool} {m v : Int} (H : smallQ r br m = (v, r', br')) (h : br = true → r = ⟨#[]⟩) : (br' = true → r' = ⟨#[]⟩ ∧ v = 0) ∧ (br' = false → br = false) ∧ r'.size ≤ r.size := by
  unfold smallQ at H
  split at H
  · rename_i hb
    simp at H
    obtain ⟨rfl, rfl, rfl⟩ := H
    exact ⟨fun _ => ⟨h hb, rfl⟩, fun e => (by cases e), Nat.le_refl _⟩
  · split at H
    · simp at H
      obtain ⟨rfl, rfl, rfl⟩ := H
      exact ⟨fun _ => ⟨rfl, rfl⟩, fun e => (by cases e), Nat.zero_le _⟩
    · rename_i u r1 hf
      have := (numF_bounds hf).2
      split at H
      · rename_i hb _ _
        simp at H
        obtain ⟨rfl, rfl, rfl⟩ := H
        exact ⟨fun e => (by cases e), fun _ => (by simpa using hb), this⟩
      · simp at H
        obtain ⟨rfl, rfl, rfl⟩ := H
        exact ⟨fun _ => ⟨rfl, rfl⟩, fun e => (by cases e), Nat.zero_le _⟩
theorem smallQ_neg {r : ByteArray} {br : Bool} (h : br = true → r = ⟨#[]⟩) : smallQ r br (-1) = (0, ⟨#[]⟩, true) := by
  unfold smallQ
  cases br with
  | true => rw [if_pos rfl, h rfl]
  | false =>
    rw [if_neg (by simp)]
    split
    · rfl
    · rw [if_neg (by omega)]
/-- What Take's three calls answer, one by one, and what that makes. -/
theorem takeQ_parts {r r' : ByteArray} {br br' : Bool} {a : St} (H : takeQ r br = (a, r', br')) (h : br = true → r = ⟨#[]⟩) : ∃ v1 r1 b1 v2 r2 b2 v3 r3 b3,
    smallQ r br 1099511627776 = (v1, r1, b1) ∧ smallQ r1 b1 7 = (v2, r2, b2) ∧ smallQ r2 b2 1099511627776 = (v3, r3, b3) ∧ (b1 = true → r1 = ⟨#[]⟩) ∧ (b2 = true → r2 = ⟨#[]⟩) ∧ (b3 = true → r3 = ⟨#[]⟩) ∧
    r1.size ≤ r.size ∧ r2.size ≤ r.size ∧ r3.size ≤ r.size ∧
    (((St.mk v1 v2 v3).ok = true ∧ a = St.mk v1 v2 v3 ∧ r' = r3 ∧ br' = b3 ∧ b3 = false) ∨ ((St.mk v1 v2 v3).ok = false ∧ a = ⟨0, 0, 0⟩ ∧ r' = ⟨#[]⟩ ∧ br' = true)) := by
  unfold takeQ at H
  obtain ⟨⟨v1, r1, b1⟩, h1⟩ : ∃ x, smallQ r br 1099511627776 = x := ⟨_, rfl⟩
  obtain ⟨⟨v2, r2, b2⟩, h2⟩ : ∃ x, smallQ r1 b1 7 = x := ⟨_, rfl⟩
  obtain ⟨⟨v3, r3, b3⟩, h3⟩ : ∃ x, smallQ r2 b2 1099511627776 = x := ⟨_, rfl⟩
  simp only [h1, h2, h3] at H
  obtain ⟨i1, j1, s1⟩ := smallQ_inv h1 h
  obtain ⟨i2, j2, s2⟩ := smallQ_inv h2 fun e => (i1 e).1
  obtain ⟨i3, j3, s3⟩ := smallQ_inv h3 fun e => (i2 e).1
  refine ⟨v1, r1, b1, v2, r2, b2, v3, r3, b3, h1, h2, h3, fun e => (i1 e).1, fun e => (i2 e).1, fun e => (i3 e).1, s1, by omega, by omega, ?_⟩
  cases hok : (St.mk v1 v2 v3).ok with
  | true =>
    rw [hok, if_pos rfl] at H
    simp at H
    obtain ⟨rfl, rfl, rfl⟩ := H
    refine Or.inl ⟨rfl, rfl, rfl, rfl, ?_⟩
    cases b3 with
    | false => rfl
    | true =>
      have := (i3 rfl).2
      have := St.ok_iff.1 hok
      simp only at this
      omega
  | false =>
    rw [hok, if_neg (by simp)] at H
    simp at H
    obtain ⟨rfl, rfl, rfl⟩ := H
    exact Or.inr ⟨rfl, rfl, rfl, rfl⟩
theorem takeQ_inv {r r' : ByteArray} {br br' : Bool} {a : St} (H : takeQ r br = (a, r', br')) (h : br = true → r = ⟨#[]⟩) : (br' = true → r' = ⟨#[]⟩) ∧ r'.size ≤ r.size := by
  obtain ⟨v1, r1, b1, v2, r2, b2, v3, r3, b3, h1, h2, h3, i1, i2, i3, s1, s2, s3, ⟨_, _, rfl, rfl, rfl⟩ | ⟨_, _, rfl, rfl⟩⟩ := takeQ_parts H h
  · exact ⟨fun e => (by cases e), s3⟩
  · exact ⟨fun _ => rfl, Nat.zero_le _⟩

set_option maxHeartbeats 4000000 in
theorem take_is (b : Nat) (r r' : ByteArray) (br br' : Bool) (a : St) (w : World) (hr : r.size ≤ 100000) (H : Hid (takeQ r br = (a, r', br'))) (hi : br = true → r = ⟨#[]⟩) (h : RA w b r br) :
    Calls Tryd.prog 93 #[.pointer (some ⟨b, 0, none⟩)] w (Took b (.agg #[.int .i64 a.c, .int .i64 a.s, .int .i64 a.q]) r' br' w) := by
  have hmf := makeFunc_run
  obtain ⟨v1, r1, b1, v2, r2, b2, v3, r3, b3, h1, h2, h3, i1, i2, i3, s1, s2, s3, hend⟩ := takeQ_parts H.out hi
  have k1 := fun w hA => small_is b r r1 br b1 v1 1099511627776 w (by unfold maxLen; omega) (by omega) (Lib.hid h1) hA
  have k2 := fun w hA => small_is b r1 r2 b1 b2 v2 7 w (by unfold maxLen; omega) (by omega) (Lib.hid h2) hA
  have k3 := fun w hA => small_is b r2 r3 b2 b3 v3 1099511627776 w (by unfold maxLen; omega) (by omega) (Lib.hid h3) hA
  have k4 := fun w hA => small_is b r3 ⟨#[]⟩ b3 true 0 (-1) w (by unfold maxLen; omega) (by omega) (Lib.hid (smallQ_neg i3)) hA
  have hroom := h.room
  have hA0 := h.below ((Below.refl _ _).alloc (Nat.le_refl _) (.cells #[.int .i64 0, .int .i64 0, .int .i64 0] 30))
  have hO0 := Out.new w
  have hT0 := But.of (b := b) ((Below.refl _ w).alloc (Nat.le_refl _) (.cells #[.int .i64 0, .int .i64 0, .int .i64 0] 30))
  have hne : w.heap.size ≠ b := by omega
  clear H h1 h2 h3 i1 i2 i3 s1 s2 s3 hr hi
  rcases hend with ⟨hok, rfl, rfl, rfl, rfl⟩ | ⟨hok, rfl, rfl, rfl⟩
  · have hc := fun w => checkV ⟨v1, v2, v3⟩ 0 (Lib.hid (by unfold St.err; rw [hok]; rfl)) w
    simp only at hc
    clear hok
    go_enter Tryd.func93, Tryd.ntmps93
    go_wp2_with (first
      | (go_at_call 85; (with_reducible refine (k1 _ hA0).mono ?_); rintro e w1 ⟨rfl, hA1, hB1⟩; have hO1 := hO0.but hB1 hne; have hT1 := hT0.trans hB1)
      | (go_at_call 85; (with_reducible refine (k2 _ hA1).mono ?_); rintro e w2 ⟨rfl, hA2, hB2⟩; have hO2 := hO1.but hB2 hne; have hT2 := hT1.trans hB2)
      | (go_at_call 85; (with_reducible refine (k3 _ hA2).mono ?_); rintro e w3 ⟨rfl, hA3, hB3⟩; have hO3 := hO2.but hB3 hne; have hT3 := hT2.trans hB3; have hS3 := StAt.new w3 ⟨v1, v2, v3⟩)
      | (go_at_call 74; (with_reducible refine (hc _).mono ?_); rintro e w4 ⟨rfl, hb4⟩; have hS4 := hS3.below hb4; have hO4 := (hO3.alloc _).below hb4; have hA4 := (hA3.below ((Below.refl _ _).alloc (Nat.le_refl _) _)).below hb4; have hT4 := but_bel (but_new hT3 _) hb4; obtain ⟨x0, x1, x2⟩ := hS4; obtain ⟨z0, z1, z2, y0, y1, y2⟩ := hO4))
    refine bodyPost_ret (v := .agg #[.int .i64 v1, .int .i64 v2, .int .i64 v3]) (by simp [results, Tryd.results93, go_sem, z0, z1, z2]; try rfl) rfl ⟨rfl, ?_, ?_⟩
    · repeat refine RA.other ?_ _ _ hne
      exact hA4
    · repeat refine But.far ?_ _ _ (Nat.le_refl _)
      exact hT4
  · have hc := fun w => checkV ⟨v1, v2, v3⟩ 1 (Lib.hid (by unfold St.err; rw [hok]; rfl)) w
    simp only at hc
    clear hok
    go_enter Tryd.func93, Tryd.ntmps93
    go_wp2_with (first
      | (go_at_call 85; (with_reducible refine (k1 _ hA0).mono ?_); rintro e w1 ⟨rfl, hA1, hB1⟩; have hO1 := hO0.but hB1 hne; have hT1 := hT0.trans hB1)
      | (go_at_call 85; (with_reducible refine (k2 _ hA1).mono ?_); rintro e w2 ⟨rfl, hA2, hB2⟩; have hO2 := hO1.but hB2 hne; have hT2 := hT1.trans hB2)
      | (go_at_call 85; (with_reducible refine (k3 _ hA2).mono ?_); rintro e w3 ⟨rfl, hA3, hB3⟩; have hO3 := hO2.but hB3 hne; have hT3 := hT2.trans hB3)
      | (go_at_call 85; (with_reducible refine (k4 _ hA4).mono ?_); rintro e w5 ⟨rfl, hA5, hB5⟩; have hO5 := hO4.but hB5 hne; have hT5 := hT4.trans hB5; obtain ⟨z0, z1, z2, y0, y1, y2⟩ := hO5)
      | (go_at_call 74; (with_reducible refine (hc _).mono ?_); rintro e w4 ⟨rfl, hb4⟩; have hO4 := (hO3.alloc _).below hb4; have hA4 := (hA3.below ((Below.refl _ _).alloc (Nat.le_refl _) _)).below hb4; have hT4 := but_bel (but_new hT3 _) hb4))
    refine bodyPost_ret (v := .agg #[.int .i64 0, .int .i64 0, .int .i64 0]) (by simp [results, Tryd.results93, go_sem, z0, z1, z2]; try rfl) rfl ⟨rfl, ?_, ?_⟩
    · repeat refine RA.other ?_ _ _ hne
      exact hA5
    · repeat refine But.far ?_ _ _ (Nat.le_refl _)
      exact hT5

theorem RS.other {w : World} {d : Nat} {S r : ByteArray} {br : Bool} (h : RS w d S r br) (x : Addr) (v : Value) (hne : x.block ≠ d) : RS (w.setCell x v) d S r br := by
  obtain ⟨a, bad, ⟨c0, c1, c2, f0, f1, f2⟩, hs⟩ := h
  exact ⟨a, bad, ⟨by rw [World.cell?_setCell_far _ _ _ _ hne]; exact c0, by rw [World.cell?_setCell_far _ _ _ _ hne]; exact c1, by rw [World.cell?_setCell_far _ _ _ _ hne]; exact c2, by simp [go_sem, f0], by simp [go_sem, f1], by simp [go_sem, f2]⟩, hs⟩
theorem RS.below {w w' : World} {d : Nat} {S r : ByteArray} {br : Bool} (h : RS w d S r br) (k : Below w.heap.size w w') : RS w' d S r br := by
  obtain ⟨a, bad, h, s⟩ := h; exact ⟨a, bad, h.below k, s⟩
theorem RS.spoil {w : World} {d : Nat} {S r : ByteArray} {br : Bool} (h : RS w d S r br) : RS (w.setCell ⟨d, 2, none⟩ (.bool true)) d S ⟨#[]⟩ true := by
  obtain ⟨a, bad, h, hs⟩ := h
  exact ⟨a, true, h.spoil, rfl, hs.2.1, fun e => (by cases e), fun _ => rfl⟩

set_option maxHeartbeats 4000000 in
theorem rtake_is (d : Nat) (S r r' : ByteArray) (br br' : Bool) (a : St) (w : World) (hs : S.size ≤ 100000) (H : Hid (takeQ r br = (a, r', br'))) (hi : br = true → r = ⟨#[]⟩) (h : RS w d S r br) :
    Calls Tryd.prog 62 #[.pointer (some ⟨d, 0, none⟩)] w (RDone d (.agg #[.int .i64 a.c, .int .i64 a.s, .int .i64 a.q]) S r' br' w) := by
  obtain ⟨v1, r1, b1, v2, r2, b2, v3, r3, b3, h1, h2, h3, i1, i2, i3, s1, s2, s3, hend⟩ := takeQ_parts H.out hi
  have k1 := fun w hA => rsmall_is d S r r1 br b1 v1 1099511627776 w hs (by omega) (Lib.hid h1) hA
  have k2 := fun w hA => rsmall_is d S r1 r2 b1 b2 v2 7 w hs (by omega) (Lib.hid h2) hA
  have k3 := fun w hA => rsmall_is d S r2 r3 b2 b3 v3 1099511627776 w hs (by omega) (Lib.hid h3) hA
  have hroom := h.room
  have hA0 := h.below ((Below.refl _ _).alloc (Nat.le_refl _) (.cells #[.int .i64 0, .int .i64 0, .int .i64 0] 30))
  have hO0 := Out.new w
  have hT0 := But.of (b := d) ((Below.refl _ w).alloc (Nat.le_refl _) (.cells #[.int .i64 0, .int .i64 0, .int .i64 0] 30))
  have hne : w.heap.size ≠ d := by omega
  clear H h1 h2 h3 i1 i2 i3 s1 s2 s3 hs hi
  rcases hend with ⟨hok, rfl, rfl, rfl, rfl⟩ | ⟨hok, rfl, rfl, rfl⟩
  · have hc := fun w => rcheckV ⟨v1, v2, v3⟩ 0 (Lib.hid (by unfold St.err; rw [hok]; rfl)) w
    simp only at hc
    clear hok
    go_enter Tryd.func62, Tryd.ntmps62
    go_wp2_with (first
      | (go_at_call 59; (with_reducible refine (k1 _ hA0).mono ?_); rintro e w1 ⟨rfl, hA1, hB1⟩; have hO1 := hO0.but hB1 hne; have hT1 := hT0.trans hB1)
      | (go_at_call 59; (with_reducible refine (k2 _ hA1).mono ?_); rintro e w2 ⟨rfl, hA2, hB2⟩; have hO2 := hO1.but hB2 hne; have hT2 := hT1.trans hB2)
      | (go_at_call 59; (with_reducible refine (k3 _ hA2).mono ?_); rintro e w3 ⟨rfl, hA3, hB3⟩; have hO3 := hO2.but hB3 hne; have hT3 := hT2.trans hB3; have hS3 := StAt.new w3 ⟨v1, v2, v3⟩; have hA3s := hA3.below ((Below.refl _ _).alloc (Nat.le_refl _) (.cells #[.int .i64 v1, .int .i64 v2, .int .i64 v3] 30)); have hA3t := hA3s; obtain ⟨aa, bad, ⟨g0, g1, g2, g3, g4, g5⟩, rfl, -⟩ := hA3t)
      | (go_at_call 81; (with_reducible refine (hc _).mono ?_); rintro e w4 ⟨rfl, hb4⟩; have hS4 := hS3.below hb4; have hO4 := (hO3.alloc _).below hb4; have hA4 := hA3s.below hb4; have hT4 := but_bel (but_new hT3 _) hb4; obtain ⟨x0, x1, x2⟩ := hS4; obtain ⟨z0, z1, z2, y0, y1, y2⟩ := hO4))
    refine bodyPost_ret (v := .agg #[.int .i64 v1, .int .i64 v2, .int .i64 v3]) (by simp [results, Tryd.results62, go_sem, z0, z1, z2]; try rfl) rfl ⟨rfl, ?_, ?_⟩
    · repeat refine RS.other ?_ _ _ hne
      exact hA4
    · repeat refine But.far ?_ _ _ (Nat.le_refl _)
      exact hT4
  · have hc := fun w => rcheckV ⟨v1, v2, v3⟩ 1 (Lib.hid (by unfold St.err; rw [hok]; rfl)) w
    simp only at hc
    clear hok
    cases b3 with
    | true =>
      go_enter Tryd.func62, Tryd.ntmps62
      go_wp2_with (first
        | (go_at_call 59; (with_reducible refine (k1 _ hA0).mono ?_); rintro e w1 ⟨rfl, hA1, hB1⟩; have hO1 := hO0.but hB1 hne; have hT1 := hT0.trans hB1)
        | (go_at_call 59; (with_reducible refine (k2 _ hA1).mono ?_); rintro e w2 ⟨rfl, hA2, hB2⟩; have hO2 := hO1.but hB2 hne; have hT2 := hT1.trans hB2)
        | (go_at_call 59; (with_reducible refine (k3 _ hA2).mono ?_); rintro e w3 ⟨rfl, hA3, hB3⟩; have hO3 := (hO2.but hB3 hne).alloc (.cells #[.int .i64 v1, .int .i64 v2, .int .i64 v3] 30); have hT3 := but_new (hT2.trans hB3) (.cells #[.int .i64 v1, .int .i64 v2, .int .i64 v3] 30); have hA3s := hA3.below ((Below.refl _ _).alloc (Nat.le_refl _) (.cells #[.int .i64 v1, .int .i64 v2, .int .i64 v3] 30)); have hA3t := hA3s; obtain ⟨aa, bad, ⟨g0, g1, g2, g3, g4, g5⟩, rfl, -⟩ := hA3t; have hO3t := hO3; obtain ⟨z0, z1, z2, y0, y1, y2⟩ := hO3t))
      refine bodyPost_ret (v := .agg #[.int .i64 0, .int .i64 0, .int .i64 0]) (by simp [results, Tryd.results62, go_sem, z0, z1, z2]; try rfl) rfl ⟨rfl, ?_, ?_⟩
      · repeat refine RS.other ?_ _ _ hne
        exact hA3s.spoil
      · repeat refine But.far ?_ _ _ (Nat.le_refl _)
        exact hT3.setCell _ _
    | false =>
      go_enter Tryd.func62, Tryd.ntmps62
      go_wp2_with (first
        | (go_at_call 59; (with_reducible refine (k1 _ hA0).mono ?_); rintro e w1 ⟨rfl, hA1, hB1⟩; have hO1 := hO0.but hB1 hne; have hT1 := hT0.trans hB1)
        | (go_at_call 59; (with_reducible refine (k2 _ hA1).mono ?_); rintro e w2 ⟨rfl, hA2, hB2⟩; have hO2 := hO1.but hB2 hne; have hT2 := hT1.trans hB2)
        | (go_at_call 59; (with_reducible refine (k3 _ hA2).mono ?_); rintro e w3 ⟨rfl, hA3, hB3⟩; have hO3 := hO2.but hB3 hne; have hT3 := hT2.trans hB3; have hS3 := StAt.new w3 ⟨v1, v2, v3⟩; have hA3s := hA3.below ((Below.refl _ _).alloc (Nat.le_refl _) (.cells #[.int .i64 v1, .int .i64 v2, .int .i64 v3] 30)); have hA3t := hA3s; obtain ⟨aa, bad, ⟨g0, g1, g2, g3, g4, g5⟩, rfl, -⟩ := hA3t)
        | (go_at_call 81; (with_reducible refine (hc _).mono ?_); rintro e w4 ⟨rfl, hb4⟩; have hO4 := (hO3.alloc _).below hb4; have hA4 := hA3s.below hb4; have hT4 := but_bel (but_new hT3 _) hb4; have hA4t := hA4; obtain ⟨aa, bad, ⟨g0, g1, g2, g3, g4, g5⟩, -⟩ := hA4t; obtain ⟨z0, z1, z2, y0, y1, y2⟩ := hO4))
      refine bodyPost_ret (v := .agg #[.int .i64 0, .int .i64 0, .int .i64 0]) (by simp [results, Tryd.results62, go_sem, z0, z1, z2]; try rfl) rfl ⟨rfl, ?_, ?_⟩
      · repeat refine RS.other ?_ _ _ hne
        exact hA4.spoil
      · repeat refine But.far ?_ _ _ (Nat.le_refl _)
        exact hT4.setCell _ _
end Go.Proofs.YtkomfenjeoaelaaDoor

/- Contracts of package mark over slices of numbers that may be read ('Ns'). -/
namespace Go.Proofs.YtkomfenjeoaelaaDoor
open Go.RowKit Go.Proofs.YtkomfenjeoaelaaDoor.Vi Go.Proofs.YtkomfenjeoaelaaDoor.Mk

/-- v is a slice of the numbers l. -/
abbrev Ns (w : World) (v : Value) (l : List Int) : Prop := Nums w w.heap.size v l
theorem Ns.later {w w' : World} {v : Value} {l : List Int} (h : Ns w v l) (k : Below w.heap.size w w') : Ns w' v l := (Nums.below h k).mono k.size (Nat.le_refl _)
theorem VDone.ns {l : List Int} {w w' : World} {e : Ending} (h : VDone l w e w') : ∃ v, e = .returned v ∧ Ns w' v l ∧ Below w.heap.size w w' := h
def Small (x : Int) : Prop := 0 ≤ x ∧ x ≤ 100
theorem lit1 (w : World) (b : Nat) (x : Int) (hc : w.cell? ⟨b, 0, none⟩ = some (.int .i64 x)) (hx : Small x) : Nums w w.heap.size (.slice (some ⟨b, 0, none⟩) 1 1) [x] :=
  ⟨⟨_, _, rfl, Or.inr ⟨b, 0, rfl, World.block_lt_of_cell? w _ hc, fun j hj => by
    match j, hj with
    | 0, _ => exact hc⟩⟩, fun n hn => by unfold Small at *; simp at hn; subst hn; omega, by simp, Nat.le_refl _⟩
theorem lit2 (w : World) (b : Nat) (x y : Int) (hc : w.cell? ⟨b, 0, none⟩ = some (.int .i64 x)) (hd : w.cell? ⟨b, 1, none⟩ = some (.int .i64 y)) (hx : Small x) (hy : Small y) : Nums w w.heap.size (.slice (some ⟨b, 0, none⟩) 2 2) [x, y] :=
  ⟨⟨_, _, rfl, Or.inr ⟨b, 0, rfl, World.block_lt_of_cell? w _ hc, fun j hj => by
    match j, hj with
    | 0, _ => exact hc
    | 1, _ => exact hd⟩⟩, fun n hn => by unfold Small at *; simp at hn; omega, by simp, Nat.le_refl _⟩
theorem lit3 (w : World) (b : Nat) (x y z : Int) (hc : w.cell? ⟨b, 0, none⟩ = some (.int .i64 x)) (hd : w.cell? ⟨b, 1, none⟩ = some (.int .i64 y)) (he : w.cell? ⟨b, 2, none⟩ = some (.int .i64 z)) (hx : Small x) (hy : Small y) (hz : Small z) : Nums w w.heap.size (.slice (some ⟨b, 0, none⟩) 3 3) [x, y, z] :=
  ⟨⟨_, _, rfl, Or.inr ⟨b, 0, rfl, World.block_lt_of_cell? w _ hc, fun j hj => by
    match j, hj with
    | 0, _ => exact hc
    | 1, _ => exact hd
    | 2, _ => exact he⟩⟩, fun n hn => by unfold Small at *; simp at hn; omega, by simp, Nat.le_refl _⟩
end Go.Proofs.YtkomfenjeoaelaaDoor

/- Slices of stamps: one that came in, and one that the call makes. -/
namespace Go.Proofs.YtkomfenjeoaelaaDoor
open Go.RowKit Go.Proofs.YtkomfenjeoaelaaDoor.Vi Go.Proofs.YtkomfenjeoaelaaDoor.Mk

/-- A stamp's three cells in block b from o on. -/
structure StO (w : World) (b o : Nat) (a : St) : Prop where
  c0 : w.cell? ⟨b, o, none⟩ = some (.int .i64 a.c)
  c1 : w.cell? ⟨b, o + 1, none⟩ = some (.int .i64 a.s)
  c2 : w.cell? ⟨b, o + 2, none⟩ = some (.int .i64 a.q)
theorem StO.room {w : World} {b o : Nat} {a : St} (h : StO w b o a) : b < w.heap.size := World.block_lt_of_cell? w _ h.c0
theorem StO.below {w w' : World} {b o B : Nat} {a : St} (h : StO w b o a) (k : Below B w w') (hb : b < B) : StO w' b o a :=
  ⟨(k.cell (p := ⟨b, o, none⟩) hb).trans h.c0, (k.cell (p := ⟨b, o + 1, none⟩) hb).trans h.c1, (k.cell (p := ⟨b, o + 2, none⟩) hb).trans h.c2⟩
theorem StO.but {w w' : World} {b o d : Nat} {a : St} (h : StO w b o a) (k : But d w w') (hd : b ≠ d) : StO w' b o a :=
  ⟨(k.cell (p := ⟨b, o, none⟩) hd h.room).trans h.c0, (k.cell (p := ⟨b, o + 1, none⟩) hd h.room).trans h.c1, (k.cell (p := ⟨b, o + 2, none⟩) hd h.room).trans h.c2⟩
/-- A slice of the stamps l, in a block below B. -/
structure Sts (w : World) (B : Nat) (a : Option Addr) (l : List St) : Prop where
  at_ : l = [] ∨ ∃ b off, a = some ⟨b, off, none⟩ ∧ b < B ∧ ∀ j (h : j < l.length), StO w b (off + j * 3) l[j]
theorem Sts.below {w w' : World} {B : Nat} {a : Option Addr} {l : List St} (h : Sts w B a l) (k : Below B w w') : Sts w' B a l := by
  rcases h.at_ with h | ⟨b, off, e, hb, hc⟩
  · exact ⟨Or.inl h⟩
  · exact ⟨Or.inr ⟨b, off, e, hb, fun j hj => (hc j hj).below k hb⟩⟩
theorem Sts.but {w w' : World} {B d : Nat} {a : Option Addr} {l : List St} (h : Sts w B a l) (k : But d w w') (hd : B ≤ d) : Sts w' B a l := by
  rcases h.at_ with h | ⟨b, off, e, hb, hc⟩
  · exact ⟨Or.inl h⟩
  · exact ⟨Or.inr ⟨b, off, e, hb, fun j hj => (hc j hj).but k (by omega)⟩⟩
/-- A slice of stamps that came in. -/
structure ArgStamps (w : World) (a : Option Addr) (len cap : Nat) : Prop where
  has : ∃ l : List St, l.length = len ∧ Sts w w.heap.size a l ∧ len ≤ 9223372036854775807

theorem cellsE : Tryd.prog.cellsOf 30 = 3 := by kernel_rfl
theorem stamp_of_cells {H : Type} {enc : TypeId × Value → H} {w : World} {base : Nat} {sp : Nat → Bool} {hd : Bool} {n : Nat} {cs : List Value} {x : DataW H × List MemPlace} (hcs : cs.length = 3)
    (h : DataW.trod enc Tryd.prog w base sp hd n 30 cs = some x) : ∃ a : St, cs = [.int .i64 a.c, .int .i64 a.s, .int .i64 a.q] := by
  match cs, hcs with
  | [c0, c1, c2], _ =>
    obtain ⟨y0, y1, y2, m, _, _, h0, h1, h2⟩ := Go.Deep.trod_struct3 Tryd.underlying30 h
    have hI : Tryd.prog.cellsOf 3 = 1 := by kernel_rfl
    simp only [hI, List.drop_zero, List.take_succ_cons, List.take_zero, List.drop_succ_cons] at h0 h1 h2
    obtain ⟨n0, e0, _, _⟩ := DataW.trod_int Tryd.underlying3 h0
    obtain ⟨n1, e1, _, _⟩ := DataW.trod_int Tryd.underlying3 h1
    obtain ⟨n2, e2, _, _⟩ := DataW.trod_int Tryd.underlying3 h2
    simp at e0 e1 e2
    exact ⟨⟨n0, n1, n2⟩, by rw [e0, e1, e2]⟩
end Go.Proofs.YtkomfenjeoaelaaDoor

/- Slices of numbers that came in, as lists. -/
namespace Go.Proofs.YtkomfenjeoaelaaDoor
open Go.RowKit Go.Proofs.YtkomfenjeoaelaaDoor.Vi Go.Proofs.YtkomfenjeoaelaaDoor.Mk

/-- v came in: a slice of the numbers l. -/
structure ArgNs (w : World) (v : Value) (l : List Int) : Prop where
  ns : Ns w v l
  cap : Hid (∃ a len cap, v = .slice a len cap ∧ len ≤ cap)
theorem argNs_of {w : World} {a : Option Addr} {len cap : Nat} (h : ArgInts w a len cap) : ∃ l, ArgNs w (.slice a len cap) l := by
  rcases h with rfl | ⟨b, off, l, rfl, hl, hlc, hm, hc, hw⟩
  · exact ⟨[], (Nums.nil w a cap).mono (Nat.zero_le _) (Nat.le_refl _), a, 0, cap, rfl, Nat.zero_le _⟩
  · subst hl
    by_cases h0 : l.length = 0
    · obtain rfl := List.eq_nil_of_length_eq_zero h0
      exact ⟨[], (Nums.nil w _ cap).mono (Nat.zero_le _) (Nat.le_refl _), _, 0, cap, rfl, Nat.zero_le _⟩
    · exact ⟨l, ⟨⟨_, _, rfl, Or.inr ⟨b, off, rfl, World.block_lt_of_cell? w _ (hc 0 (by omega)), hc⟩⟩, hw, by unfold maxLen at hm; omega, Nat.le_refl _⟩, _, _, _, rfl, hlc⟩
theorem sameL_self (l : List Int) : sameL l l = true := by unfold sameL; simp
end Go.Proofs.YtkomfenjeoaelaaDoor
