/- Joined: VintArgs, MarkAt, MarkVec, MarkVecs, MarkTell, MarkTake, MarkNs, MarkStamps, MarkArgs. -/
import Derived.Test.YthifmfgnblecbaaVintA
import Derived.SliceStrings
import Derived.ChangeSlices
import Derived.Deep.DeepHandedRow
import Derived.Test.YthifmfgnblecbaaVintB
import Derived.Test.YthifmfgnblecbaaMarkA
import Derived.WalkSmall
import Derived.Deep.Slices
import Derived.Lib.SmallJoins
import Derived.OpenShut
/- Slices of numbers and of texts that came in. -/
namespace Go.Proofs.Ythifmfgnblecbaa
open Go.RowKit

/-- A slice of numbers that came in: empty, or each of its cells holds a number. -/
def ArgInts (w : World) (a : Option Addr) (len cap : Nat) : Prop :=
  len = 0 ∨ ∃ (b off : Nat) (l : List Int), a = some ⟨b, off, none⟩ ∧ l.length = len ∧ len ≤ cap ∧ cap ≤ maxLen ∧ (∀ j (h : j < l.length), w.cell? ⟨b, off + j, none⟩ = some (.int .i64 l[j])) ∧ ∀ n ∈ l, -9223372036854775808 ≤ n ∧ n ≤ 9223372036854775807
/-- A slice of texts that came in. -/
def ArgStrs (w : World) (a : Option Addr) (len cap : Nat) : Prop :=
  len = 0 ∨ ∃ (b off : Nat) (l : List ByteArray), a = some ⟨b, off, none⟩ ∧ l.length = len ∧ len ≤ cap ∧ cap ≤ maxLen ∧ (∀ j (h : j < l.length), w.cell? ⟨b, off + j, none⟩ = some (.string l[j])) ∧ ∀ s ∈ l, s.size ≤ maxLen

theorem argInts_of {H : Type} {enc : TypeId × Value → H} {w : World} {base fuel : Nat} {sp : Nat → Bool} {hd : Bool} {a : Option Addr} {len cap : Nat} {t e : TypeId} {x : DataW H × List MemPlace}
    (ht : Try.prog.underlying t = some (.slice e)) (he : Try.prog.underlying e = some (.int .i64)) (hc : Try.prog.cellsOf e = 1)
    (h : DataW.trod enc Try.prog w base sp hd fuel t [.slice a len cap] = some x) : ArgInts w a len cap := by
  rcases Go.ChangeShapes.open_ints ht he hc h with ⟨hcs, _⟩ | ⟨y, l, c, zs, hcs, _, hl, hm, hz, _, hcell, hwf⟩
  · simp at hcs
    exact Or.inl hcs.2.1
  · simp at hcs
    obtain ⟨rfl, rfl, rfl⟩ := hcs
    by_cases h0 : len = 0
    · exact Or.inl h0
    · have hlen : len ≤ zs.length := by rw [hz]; split <;> omega
      obtain ⟨b, off, spot⟩ := y
      have hc := hcell 0 (by omega)
      have hspot : spot = none := by simpa [Addr.add] using World.cell?_spot hc
      subst hspot
      have hp : ∀ j, (⟨b, off, none⟩ : Addr).add j = ⟨b, off + j, none⟩ := fun j => by unfold Addr.add; split <;> simp_all
      refine Or.inr ⟨b, off, zs.take len, rfl, by rw [List.length_take]; omega, hl, hm, fun j hj => ?_, fun n hn => ?_⟩
      · rw [List.length_take] at hj
        rw [← hp, hcell j (by omega), List.getElem_take, List.getD_eq_getElem?_getD, List.getElem?_eq_getElem (by omega)]; rfl
      · have := bounds_i64 (hwf n (List.mem_of_mem_take hn))
        omega
theorem argStrs_of {H : Type} {enc : TypeId × Value → H} {w : World} {base fuel : Nat} {sp : Nat → Bool} {hd : Bool} {a : Option Addr} {len cap : Nat} {t e : TypeId} {x : DataW H × List MemPlace}
    (ht : Try.prog.underlying t = some (.slice e)) (he : Try.prog.underlying e = some .string) (hc : Try.prog.cellsOf e = 1)
    (h : DataW.trod enc Try.prog w base sp hd fuel t [.slice a len cap] = some x) : ArgStrs w a len cap := by
  rcases Go.ChangeShapes.open_strings ht he hc h with ⟨hcs, _⟩ | ⟨y, l, c, zs, hcs, _, hl, hm, hz, _, hcell, hwf⟩
  · simp at hcs
    exact Or.inl hcs.2.1
  · simp at hcs
    obtain ⟨rfl, rfl, rfl⟩ := hcs
    by_cases h0 : len = 0
    · exact Or.inl h0
    · have hlen : len ≤ zs.length := by rw [hz]; split <;> omega
      obtain ⟨b, off, spot⟩ := y
      have hc := hcell 0 (by omega)
      have hspot : spot = none := by simpa [Addr.add] using World.cell?_spot hc
      subst hspot
      have hp : ∀ j, (⟨b, off, none⟩ : Addr).add j = ⟨b, off + j, none⟩ := fun j => by unfold Addr.add; split <;> simp_all
      refine Or.inr ⟨b, off, zs.take len, rfl, by rw [List.length_take]; omega, hl, hm, fun j hj => ?_, fun s hs => hwf s (List.mem_of_mem_take hs)⟩
      rw [List.length_take] at hj
      rw [← hp, hcell j (by omega), List.getElem_take, List.getD_eq_getElem?_getD, List.getElem?_eq_getElem (by omega)]; rfl
end Go.Proofs.Ythifmfgnblecbaa

/- Slices of numbers, and contracts of package mark's At, bounded, Covers, Compare. -/
namespace Go.Proofs.Ythifmfgnblecbaa
open Go.RowKit Go.Proofs.Ythifmfgnblecbaa.Vi Go.Proofs.Ythifmfgnblecbaa.Mk

/-- v is a slice of the numbers l, all of them in blocks below B. -/
structure Nums (w : World) (B : Nat) (v : Value) (l : List Int) : Prop where
  shape : ∃ a cap, v = .slice a l.length cap ∧ (l = [] ∨ ∃ b off, a = some ⟨b, off, none⟩ ∧ b < B ∧ ∀ j (h : j < l.length), w.cell? ⟨b, off + j, none⟩ = some (.int .i64 l[j]))
  wide : ∀ n ∈ l, -9223372036854775808 ≤ n ∧ n ≤ 9223372036854775807
  size : l.length ≤ 9223372036854775807
  room : B ≤ w.heap.size
theorem Nums.slice {w : World} {B : Nat} {v : Value} {l : List Int} (h : Nums w B v l) : ∃ a cap, v = .slice a l.length cap := by
  obtain ⟨⟨a, cap, h1, _⟩, _⟩ := h; exact ⟨a, cap, h1⟩
theorem Nums.mono {w : World} {B B' : Nat} {v : Value} {l : List Int} (h : Nums w B v l) (hB : B ≤ B') (hw : B' ≤ w.heap.size) : Nums w B' v l := by
  obtain ⟨⟨a, cap, h1, h2⟩, h3, h4, _⟩ := h
  refine ⟨⟨a, cap, h1, ?_⟩, h3, h4, hw⟩
  rcases h2 with h | ⟨b, off, e, hb, hc⟩
  · exact Or.inl h
  · exact Or.inr ⟨b, off, e, by omega, hc⟩
theorem Nums.below {w w' : World} {B : Nat} {v : Value} {l : List Int} (h : Nums w B v l) (k : Below B w w') : Nums w' B v l := by
  obtain ⟨⟨a, cap, h1, h2⟩, h3, h4, h5⟩ := h
  refine ⟨⟨a, cap, h1, ?_⟩, h3, h4, Nat.le_trans h5 k.size⟩
  rcases h2 with h | ⟨b, off, e, hb, hc⟩
  · exact Or.inl h
  · exact Or.inr ⟨b, off, e, hb, fun j hj => (k.cell (p := ⟨b, off + j, none⟩) hb).trans (hc j hj)⟩
theorem Nums.nil (w : World) (a : Option Addr) (cap : Nat) : Nums w 0 (.slice a 0 cap) [] := ⟨⟨a, cap, rfl, Or.inl rfl⟩, fun n h => (by simp at h), by simp, Nat.zero_le _⟩
theorem Nums.next {w w' : World} {B : Nat} {v : Value} {l : List Int} (h : Nums w B v l) (k : Below w.heap.size w w') : Nums w' B v l := h.below (k.mono h.room)

theorem bounded_any (n : Int) (w : World) : Calls Try.prog 62 #[.int .i64 n] w fun e w' => e = .returned (.int .i64 (cl n)) ∧ w = w' := by
  by_cases c1 : n < 0
  · rw [show cl n = 0 by unfold cl; rw [if_pos c1]]
    have hmm : min (max n 0) 1099511627776 = 0 := by omega
    go_enter Try.func62, Try.ntmps62
    go_wp2
    all_goals (go_ret; exact ⟨by first | rfl | (rw [← hmm]; rfl), rfl⟩)
  · by_cases c2 : (1099511627776 : Int) < n
    · rw [show cl n = 1099511627776 by unfold cl; rw [if_neg c1, if_pos c2]]
      have c3 : 0 ≤ n := by omega
      have hmm : min (max n 0) 1099511627776 = 1099511627776 := by omega
      clear c1
      go_enter Try.func62, Try.ntmps62
      go_wp2
      all_goals (go_ret; exact ⟨by first | rfl | (rw [← hmm]; rfl), rfl⟩)
    · rw [show cl n = n by unfold cl; rw [if_neg c1, if_neg c2]]
      have c3 : 0 ≤ n := by omega
      have c4 : n ≤ 1099511627776 := by omega
      have hmm : min (max n 0) 1099511627776 = n := by omega
      clear c1 c2
      go_enter Try.func62, Try.ntmps62
      go_wp2
      all_goals (go_ret; exact ⟨by first | rfl | (rw [← hmm]; rfl), rfl⟩)

theorem at_any (v : Value) (l : List Int) (s : Int) (B : Nat) (w : World) (h : Nums w B v l) (hs : -9223372036854775808 ≤ s ∧ s ≤ 9223372036854775807) :
    Calls Try.prog 50 #[v, .int .i64 s] w fun e w' => e = .returned (.int .i64 (atL l s)) ∧ w = w' := by
  obtain ⟨⟨a, cap, rfl, hc⟩, -, hsz, -⟩ := h
  by_cases c1 : s < 0
  · rw [atL_out (Or.inl c1)]
    go_enter Try.func50, Try.ntmps50
    go_wp2
    go_ret
    exact ⟨rfl, rfl⟩
  · obtain ⟨k, rfl⟩ := Int.eq_ofNat_of_zero_le (by omega : 0 ≤ s)
    clear c1 hs
    by_cases c2 : (7 : Int) < (k : Int)
    · rw [atL_out (Or.inr c2)]
      go_enter Try.func50, Try.ntmps50
      go_wp2
      go_ret
      exact ⟨rfl, rfl⟩
    · by_cases c3 : (l.length : Int) ≤ (k : Int)
      · rw [atL_past c3]
        go_enter Try.func50, Try.ntmps50
        go_wp2
        go_ret
        exact ⟨rfl, rfl⟩
      · have hk : k < l.length := by omega
        rcases hc with rfl | ⟨b, off, rfl, _, hc⟩
        · simp at hk
        · have hck := hc k hk
          rw [atL_get (by omega) hk]
          obtain ⟨x, hx⟩ : ∃ x, l[k] = x := ⟨_, rfl⟩
          rw [hx] at hck ⊢
          have c4 : (k : Int) < (l.length : Int) := by omega
          have hb := fun w => bounded_any x w
          clear hc hx hk
          go_enter Try.func50, Try.ntmps50
          go_wp2_with (go_at_call 62; (with_reducible refine (hb _).mono ?_); rintro e w1 ⟨rfl, rfl⟩)
          go_ret
          exact ⟨rfl, rfl⟩
end Go.Proofs.Ythifmfgnblecbaa

/- Contracts of package mark's vector, one for each closure that it is handed. -/
namespace Go.Proofs.Ythifmfgnblecbaa
open Go.RowKit Go.Proofs.Ythifmfgnblecbaa.Vi Go.Proofs.Ythifmfgnblecbaa.Mk

/-- Block b has eight cells that may be written, and the first k of them hold g. -/
structure Eight (w : World) (b : Nat) (g : Nat → Int) (k : Nat) : Prop where
  cells : ∀ j, j < 8 → ∃ v, w.cell? ⟨b, j, none⟩ = some v ∧ (j < k → v = .int .i64 (g j))
  free : ∀ j, j < 8 → w.frozen? ⟨b, j, none⟩ = false
theorem Eight.room {w : World} {b k : Nat} {g : Nat → Int} (h : Eight w b g k) : b < w.heap.size := by
  obtain ⟨v, hv, _⟩ := h.cells 0 (by omega)
  exact World.block_lt_of_cell? w _ hv
theorem Eight.but {w w' : World} {b d k : Nat} {g : Nat → Int} (h : Eight w b g k) (hB : But d w w') (hd : b ≠ d) : Eight w' b g k :=
  ⟨fun j hj => by rw [hB.cell (p := ⟨b, j, none⟩) hd h.room]; exact h.cells j hj, fun j hj => by rw [hB.frozen (p := ⟨b, j, none⟩) hd h.room]; exact h.free j hj⟩
theorem Eight.step {w : World} {b k : Nat} {g : Nat → Int} (h : Eight w b g k) (_hk : k < 8) : Eight (w.setCell ⟨b, k, none⟩ (.int .i64 (g k))) b g (k + 1) := by
  refine ⟨fun j hj => ?_, fun j hj => by simp [go_sem, h.free j hj]⟩
  obtain ⟨v, hv, hg⟩ := h.cells j hj
  by_cases e : j = k
  · subst e
    exact ⟨_, World.cell?_setCell_same _ _ _ hv, fun _ => rfl⟩
  · refine ⟨v, ?_, fun hl => hg (by omega)⟩
    rw [World.cell?_setCell_other]
    · exact hv
    · intro e2; exact e (congrArg Addr.off e2).symm
theorem Eight.get {w : World} {b k : Nat} {g : Nat → Int} (h : Eight w b g k) (j : Nat) (hj : j < 8) (hk : j < k) : w.cell? ⟨b, j, none⟩ = some (.int .i64 (g j)) := by
  obtain ⟨v, hv, hg⟩ := h.cells j hj
  rw [hv, hg hk]
theorem Eight.new (w : World) (g : Nat → Int) (T : TypeId) : Eight (w.alloc (.cells #[.int .i64 0, .int .i64 0, .int .i64 0, .int .i64 0, .int .i64 0, .int .i64 0, .int .i64 0, .int .i64 0] T)) w.heap.size g 0 := by
  refine ⟨fun j hj => ⟨.int .i64 0, ?_, fun h => absurd h (Nat.not_lt_zero _)⟩, fun j _ => by simp [go_sem]⟩
  match j, hj with
  | 0, _ | 1, _ | 2, _ | 3, _ | 4, _ | 5, _ | 6, _ | 7, _ => simp [go_sem]
theorem But.self (w : World) (b : Nat) (o : Nat) (v : Value) : But b w (w.setCell ⟨b, o, none⟩ v) := (But.refl b w).setCell o v
/-- What vector leaves: a new slice of the vector's numbers. -/
def VecDone (g : Nat → Int) (J : Nat → World → Prop) (w : World) (e : Ending) (w' : World) : Prop :=
  e = .returned (.slice (some ⟨w.heap.size, 0, none⟩) (upto g 8) (upto g 8)) ∧ Eight w' w.heap.size g 8 ∧ J 8 w'
theorem upto_yes {g : Nat → Int} {k : Nat} (h : 0 < g k) : upto g (k + 1) = k + 1 := if_pos h
theorem upto_no {g : Nat → Int} {k : Nat} (h : ¬ 0 < g k) : upto g (k + 1) = upto g k := if_neg h


set_option maxHeartbeats 1000000 in
theorem vector_normal (c0 : Value) (f : Nat → Int) (J : Nat → World → Prop) (bj : Nat) (w : World) (hbj : bj < w.heap.size) (h0 : J 0 w) (hJ : ∀ k u u', J k u → But w.heap.size u u' → w.heap.size ≤ u.heap.size → J k u')
    (hcall : ∀ k : Nat, k < 8 → ∀ u, J k u → w.heap.size < u.heap.size → Calls Try.prog 69 #[.int .i64 (k : Int), c0] u fun e u' => e = .returned (.int .i64 (f k)) ∧ J (k + 1) u' ∧ But bj u u') :
    Calls Try.prog 48 #[.func (.func 69) #[] #[c0]] w (VecDone (fun i => cl (f i)) J w) := by
  obtain ⟨g, hg⟩ : ∃ g : Nat → Int, (fun i => cl (f i)) = g := ⟨_, rfl⟩
  have HG : Hid (∀ i, cl (f i) = g i) := Lib.hid (fun i => congrFun hg i)
  rw [hg]
  clear hg
  have hmk : ∀ w, (Instr.makeSlice 22 (.int .i64 8) (.int .i64 8)).run Try.prog w = .ok (.slice (some ⟨w.heap.size, 0, none⟩) 8 8) (w.alloc (.cells #[.int .i64 0, .int .i64 0, .int .i64 0, .int .i64 0, .int .i64 0, .int .i64 0, .int .i64 0, .int .i64 0] 3)) := fun _ => by kernel_rfl
  have hE0 := Eight.new w g 3
  have hJ1 := hJ 0 _ _ h0 (But.of ((Below.refl w.heap.size w).alloc (Nat.le_refl _) (.cells #[.int .i64 0, .int .i64 0, .int .i64 0, .int .i64 0, .int .i64 0, .int .i64 0, .int .i64 0, .int .i64 0] 3))) (Nat.le_refl _)
  have HJ := Lib.hid hJ
  have HC := Lib.hid hcall
  have HE0 := Lib.hid hE0
  have HJ1 := Lib.hid hJ1
  clear hJ hcall hE0 hJ1 h0
  have hU := fun k => upto_le g k
  have HU := Lib.hid hU
  clear hU
  go_enter Try.func48, Try.ntmps48
  go_wp2
  go_loopw [4, 9] (fun sz i wr => ∃ k : Nat, k ≤ 8 ∧ i = .int .i64 (k : Int) ∧ sz = .int .i64 ((upto g k : Nat) : Int) ∧ Eight wr w.heap.size g k ∧ J k wr) (fun _ i _ => 8 - (intOf i).toNat)
  case atStart => exact ⟨0, by omega, rfl, rfl, HE0.out, HJ1.out⟩
  case round =>
    obtain ⟨k, hk, rfl, rfl, hE, hJk⟩ := hrel
    clear hmk HE0 HJ1
    by_cases hk8 : k < 8
    · have hk2 : (k : Int) < 8 := by omega
      have hcall := HC.out k hk8 wr hJk hE.room
      have hG := HG.out k
      obtain ⟨x, hx⟩ : ∃ x, f k = x := ⟨_, rfl⟩
      rw [hx] at hcall hG
      have hbd := fun w => bounded_any x w
      rw [hG] at hbd
      have hne : w.heap.size ≠ bj := by omega
      by_cases hpos : 0 < g k
      · have HS := Lib.hid (upto_yes hpos)
        clear hx
        go_wp2_with (first
          | (go_at_call 69; (with_reducible refine hcall.mono ?_); rintro e w1 ⟨rfl, hJ1, hB1⟩; have hE1 := hE.but hB1 hne; obtain ⟨v1, hv1, -⟩ := hE1.cells k hk8; have hfz := hE1.free k hk8)
          | (go_at_call 62; (with_reducible refine (hbd _).mono ?_); rintro e w2 ⟨rfl, rfl⟩))
        go_roundw
        case rel => exact ⟨k + 1, by omega, by go_num, by rw [HS.out]; go_num, hE1.step hk8, HJ.out _ _ _ hJ1 (But.self _ _ _ _) (Nat.le_of_lt hE1.room)⟩
        case measure => simp [intOf]; omega
      · have HS := Lib.hid (upto_no hpos)
        clear hx
        go_wp2_with (first
          | (go_at_call 69; (with_reducible refine hcall.mono ?_); rintro e w1 ⟨rfl, hJ1, hB1⟩; have hE1 := hE.but hB1 hne; obtain ⟨v1, hv1, -⟩ := hE1.cells k hk8; have hfz := hE1.free k hk8)
          | (go_at_call 62; (with_reducible refine (hbd _).mono ?_); rintro e w2 ⟨rfl, rfl⟩))
        go_roundw
        case rel => exact ⟨k + 1, by omega, by go_num, by rw [HS.out], hE1.step hk8, HJ.out _ _ _ hJ1 (But.self _ _ _ _) (Nat.le_of_lt hE1.room)⟩
        case measure => simp [intOf]; omega
    · obtain rfl : k = 8 := by omega
      have h8 := HU.out 8
      obtain ⟨n, hn⟩ : ∃ n, upto g 8 = n := ⟨_, rfl⟩
      rw [hn] at h8 ⊢
      have HN := Lib.hid hn
      clear hn hk8 hk
      go_wp2
      go_ret
      exact ⟨by rw [HN.out]; rfl, hE, hJk⟩


set_option maxHeartbeats 1000000 in
theorem vector_join (c0 c1 : Value) (f : Nat → Int) (J : Nat → World → Prop) (bj : Nat) (w : World) (hbj : bj < w.heap.size) (h0 : J 0 w) (hJ : ∀ k u u', J k u → But w.heap.size u u' → w.heap.size ≤ u.heap.size → J k u')
    (hcall : ∀ k : Nat, k < 8 → ∀ u, J k u → w.heap.size < u.heap.size → Calls Try.prog 49 #[.int .i64 (k : Int), c0, c1] u fun e u' => e = .returned (.int .i64 (f k)) ∧ J (k + 1) u' ∧ But bj u u') :
    Calls Try.prog 48 #[.func (.func 49) #[] #[c0, c1]] w (VecDone (fun i => cl (f i)) J w) := by
  obtain ⟨g, hg⟩ : ∃ g : Nat → Int, (fun i => cl (f i)) = g := ⟨_, rfl⟩
  have HG : Hid (∀ i, cl (f i) = g i) := Lib.hid (fun i => congrFun hg i)
  rw [hg]
  clear hg
  have hmk : ∀ w, (Instr.makeSlice 22 (.int .i64 8) (.int .i64 8)).run Try.prog w = .ok (.slice (some ⟨w.heap.size, 0, none⟩) 8 8) (w.alloc (.cells #[.int .i64 0, .int .i64 0, .int .i64 0, .int .i64 0, .int .i64 0, .int .i64 0, .int .i64 0, .int .i64 0] 3)) := fun _ => by kernel_rfl
  have hE0 := Eight.new w g 3
  have hJ1 := hJ 0 _ _ h0 (But.of ((Below.refl w.heap.size w).alloc (Nat.le_refl _) (.cells #[.int .i64 0, .int .i64 0, .int .i64 0, .int .i64 0, .int .i64 0, .int .i64 0, .int .i64 0, .int .i64 0] 3))) (Nat.le_refl _)
  have HJ := Lib.hid hJ
  have HC := Lib.hid hcall
  have HE0 := Lib.hid hE0
  have HJ1 := Lib.hid hJ1
  clear hJ hcall hE0 hJ1 h0
  have hU := fun k => upto_le g k
  have HU := Lib.hid hU
  clear hU
  go_enter Try.func48, Try.ntmps48
  go_wp2
  go_loopw [4, 9] (fun sz i wr => ∃ k : Nat, k ≤ 8 ∧ i = .int .i64 (k : Int) ∧ sz = .int .i64 ((upto g k : Nat) : Int) ∧ Eight wr w.heap.size g k ∧ J k wr) (fun _ i _ => 8 - (intOf i).toNat)
  case atStart => exact ⟨0, by omega, rfl, rfl, HE0.out, HJ1.out⟩
  case round =>
    obtain ⟨k, hk, rfl, rfl, hE, hJk⟩ := hrel
    clear hmk HE0 HJ1
    by_cases hk8 : k < 8
    · have hk2 : (k : Int) < 8 := by omega
      have hcall := HC.out k hk8 wr hJk hE.room
      have hG := HG.out k
      obtain ⟨x, hx⟩ : ∃ x, f k = x := ⟨_, rfl⟩
      rw [hx] at hcall hG
      have hbd := fun w => bounded_any x w
      rw [hG] at hbd
      have hne : w.heap.size ≠ bj := by omega
      by_cases hpos : 0 < g k
      · have HS := Lib.hid (upto_yes hpos)
        clear hx
        go_wp2_with (first
          | (go_at_call 49; (with_reducible refine hcall.mono ?_); rintro e w1 ⟨rfl, hJ1, hB1⟩; have hE1 := hE.but hB1 hne; obtain ⟨v1, hv1, -⟩ := hE1.cells k hk8; have hfz := hE1.free k hk8)
          | (go_at_call 62; (with_reducible refine (hbd _).mono ?_); rintro e w2 ⟨rfl, rfl⟩))
        go_roundw
        case rel => exact ⟨k + 1, by omega, by go_num, by rw [HS.out]; go_num, hE1.step hk8, HJ.out _ _ _ hJ1 (But.self _ _ _ _) (Nat.le_of_lt hE1.room)⟩
        case measure => simp [intOf]; omega
      · have HS := Lib.hid (upto_no hpos)
        clear hx
        go_wp2_with (first
          | (go_at_call 49; (with_reducible refine hcall.mono ?_); rintro e w1 ⟨rfl, hJ1, hB1⟩; have hE1 := hE.but hB1 hne; obtain ⟨v1, hv1, -⟩ := hE1.cells k hk8; have hfz := hE1.free k hk8)
          | (go_at_call 62; (with_reducible refine (hbd _).mono ?_); rintro e w2 ⟨rfl, rfl⟩))
        go_roundw
        case rel => exact ⟨k + 1, by omega, by go_num, by rw [HS.out], hE1.step hk8, HJ.out _ _ _ hJ1 (But.self _ _ _ _) (Nat.le_of_lt hE1.room)⟩
        case measure => simp [intOf]; omega
    · obtain rfl : k = 8 := by omega
      have h8 := HU.out 8
      obtain ⟨n, hn⟩ : ∃ n, upto g 8 = n := ⟨_, rfl⟩
      rw [hn] at h8 ⊢
      have HN := Lib.hid hn
      clear hn hk8 hk
      go_wp2
      go_ret
      exact ⟨by rw [HN.out]; rfl, hE, hJk⟩


set_option maxHeartbeats 1000000 in
theorem vector_with (c0 c1 c2 : Value) (f : Nat → Int) (J : Nat → World → Prop) (bj : Nat) (w : World) (hbj : bj < w.heap.size) (h0 : J 0 w) (hJ : ∀ k u u', J k u → But w.heap.size u u' → w.heap.size ≤ u.heap.size → J k u')
    (hcall : ∀ k : Nat, k < 8 → ∀ u, J k u → w.heap.size < u.heap.size → Calls Try.prog 52 #[.int .i64 (k : Int), c0, c1, c2] u fun e u' => e = .returned (.int .i64 (f k)) ∧ J (k + 1) u' ∧ But bj u u') :
    Calls Try.prog 48 #[.func (.func 52) #[] #[c0, c1, c2]] w (VecDone (fun i => cl (f i)) J w) := by
  obtain ⟨g, hg⟩ : ∃ g : Nat → Int, (fun i => cl (f i)) = g := ⟨_, rfl⟩
  have HG : Hid (∀ i, cl (f i) = g i) := Lib.hid (fun i => congrFun hg i)
  rw [hg]
  clear hg
  have hmk : ∀ w, (Instr.makeSlice 22 (.int .i64 8) (.int .i64 8)).run Try.prog w = .ok (.slice (some ⟨w.heap.size, 0, none⟩) 8 8) (w.alloc (.cells #[.int .i64 0, .int .i64 0, .int .i64 0, .int .i64 0, .int .i64 0, .int .i64 0, .int .i64 0, .int .i64 0] 3)) := fun _ => by kernel_rfl
  have hE0 := Eight.new w g 3
  have hJ1 := hJ 0 _ _ h0 (But.of ((Below.refl w.heap.size w).alloc (Nat.le_refl _) (.cells #[.int .i64 0, .int .i64 0, .int .i64 0, .int .i64 0, .int .i64 0, .int .i64 0, .int .i64 0, .int .i64 0] 3))) (Nat.le_refl _)
  have HJ := Lib.hid hJ
  have HC := Lib.hid hcall
  have HE0 := Lib.hid hE0
  have HJ1 := Lib.hid hJ1
  clear hJ hcall hE0 hJ1 h0
  have hU := fun k => upto_le g k
  have HU := Lib.hid hU
  clear hU
  go_enter Try.func48, Try.ntmps48
  go_wp2
  go_loopw [4, 9] (fun sz i wr => ∃ k : Nat, k ≤ 8 ∧ i = .int .i64 (k : Int) ∧ sz = .int .i64 ((upto g k : Nat) : Int) ∧ Eight wr w.heap.size g k ∧ J k wr) (fun _ i _ => 8 - (intOf i).toNat)
  case atStart => exact ⟨0, by omega, rfl, rfl, HE0.out, HJ1.out⟩
  case round =>
    obtain ⟨k, hk, rfl, rfl, hE, hJk⟩ := hrel
    clear hmk HE0 HJ1
    by_cases hk8 : k < 8
    · have hk2 : (k : Int) < 8 := by omega
      have hcall := HC.out k hk8 wr hJk hE.room
      have hG := HG.out k
      obtain ⟨x, hx⟩ : ∃ x, f k = x := ⟨_, rfl⟩
      rw [hx] at hcall hG
      have hbd := fun w => bounded_any x w
      rw [hG] at hbd
      have hne : w.heap.size ≠ bj := by omega
      by_cases hpos : 0 < g k
      · have HS := Lib.hid (upto_yes hpos)
        clear hx
        go_wp2_with (first
          | (go_at_call 52; (with_reducible refine hcall.mono ?_); rintro e w1 ⟨rfl, hJ1, hB1⟩; have hE1 := hE.but hB1 hne; obtain ⟨v1, hv1, -⟩ := hE1.cells k hk8; have hfz := hE1.free k hk8)
          | (go_at_call 62; (with_reducible refine (hbd _).mono ?_); rintro e w2 ⟨rfl, rfl⟩))
        go_roundw
        case rel => exact ⟨k + 1, by omega, by go_num, by rw [HS.out]; go_num, hE1.step hk8, HJ.out _ _ _ hJ1 (But.self _ _ _ _) (Nat.le_of_lt hE1.room)⟩
        case measure => simp [intOf]; omega
      · have HS := Lib.hid (upto_no hpos)
        clear hx
        go_wp2_with (first
          | (go_at_call 52; (with_reducible refine hcall.mono ?_); rintro e w1 ⟨rfl, hJ1, hB1⟩; have hE1 := hE.but hB1 hne; obtain ⟨v1, hv1, -⟩ := hE1.cells k hk8; have hfz := hE1.free k hk8)
          | (go_at_call 62; (with_reducible refine (hbd _).mono ?_); rintro e w2 ⟨rfl, rfl⟩))
        go_roundw
        case rel => exact ⟨k + 1, by omega, by go_num, by rw [HS.out], hE1.step hk8, HJ.out _ _ _ hJ1 (But.self _ _ _ _) (Nat.le_of_lt hE1.room)⟩
        case measure => simp [intOf]; omega
    · obtain rfl : k = 8 := by omega
      have h8 := HU.out 8
      obtain ⟨n, hn⟩ : ∃ n, upto g 8 = n := ⟨_, rfl⟩
      rw [hn] at h8 ⊢
      have HN := Lib.hid hn
      clear hn hk8 hk
      go_wp2
      go_ret
      exact ⟨by rw [HN.out]; rfl, hE, hJk⟩


end Go.Proofs.Ythifmfgnblecbaa

/- Contracts of package mark's normal, Join, Meet, With. -/
namespace Go.Proofs.Ythifmfgnblecbaa
open Go.RowKit Go.Proofs.Ythifmfgnblecbaa.Vi Go.Proofs.Ythifmfgnblecbaa.Mk

/-- A new slice of the numbers l, and nothing that was there has turned. -/
def VDone (l : List Int) (w : World) (e : Ending) (w' : World) : Prop := ∃ v, e = .returned v ∧ Nums w' w'.heap.size v l ∧ Below w.heap.size w w'
theorem nums_of_eight {w : World} {b : Nat} {g : Nat → Int} (h : Eight w b g 8) (hf : Fit g) : Nums w w.heap.size (.slice (some ⟨b, 0, none⟩) (upto g 8) (upto g 8)) (vec g) := by
  refine ⟨⟨_, _, by rw [vec_length], Or.inr ⟨b, 0, rfl, h.room, fun j hj => ?_⟩⟩, fun n hn => ?_, ?_, Nat.le_refl _⟩
  · rw [vec_length] at hj
    have := upto_le g 8
    rw [vec_get, Nat.zero_add]
    exact h.get j (by omega) (by omega)
  · have := vec_fit hf n hn; omega
  · have := vec_size g; omega
theorem cl_fit {f : Nat → Int} (h : ∀ i, 0 ≤ f i ∧ f i ≤ 1099511627776) : (fun i => cl (f i)) = f := funext fun i => cl_in (h i).1 (h i).2
theorem keepJ {W u u' : World} (h : Below W.heap.size W u) (k : But W.heap.size u u') (hz : W.heap.size ≤ u.heap.size) : Below W.heap.size W u' := h.trans (k.below (Nat.le_refl _) hz)

theorem at_quiet (v : Value) (l : List Int) (s : Int) (B : Nat) (u : World) (n : Nat) (h : Nums u B v l) (hs : -9223372036854775808 ≤ s ∧ s ≤ 9223372036854775807) :
    Calls Try.prog 50 #[v, .int .i64 s] (u.drewN n) fun e w' => e = .returned (.int .i64 (atL l s)) ∧ w' = u.drewN n :=
  (at_any v l s B _ (h.next (below_drawn u n)) hs).mono fun _ _ ⟨h1, h2⟩ => ⟨h1, h2.symm⟩
theorem normal1_any (k : Nat) (p : Nat) (v : Value) (l : List Int) (B : Nat) (u : World) (c : u.cell? ⟨p, 0, none⟩ = some v) (h : Nums u B v l) (hk : k < 8) :
    Calls Try.prog 69 #[.int .i64 (k : Int), .pointer (some ⟨p, 0, none⟩)] u fun e u' => e = .returned (.int .i64 (atL l (k : Int))) ∧ u = u' := by
  have hA := at_any v l (k : Int) B u h (by omega)
  clear hk
  go_enter Try.func69, Try.ntmps69
  go_wp2_with (go_at_call 50; (with_reducible refine hA.mono ?_); rintro e w1 ⟨rfl, rfl⟩)
  go_ret
  exact ⟨rfl, rfl⟩
theorem normal_is (v : Value) (l : List Int) (B : Nat) (w : World) (h : Nums w B v l) : Calls Try.prog 67 #[v] w (VDone (plainL l) w) := by
  obtain ⟨a0, cap0, rfl⟩ := h.slice
  obtain ⟨W, hW⟩ : ∃ W, w.alloc (.cells #[.slice a0 l.length cap0] 22) = W := ⟨_, rfl⟩
  have hBW : Below w.heap.size w W := by rw [← hW]; exact (Below.refl _ _).alloc (Nat.le_refl _) _
  have hs : W.heap.size = w.heap.size + 1 := by rw [← hW]; simp
  have hc : W.cell? ⟨w.heap.size, 0, none⟩ = some (.slice a0 l.length cap0) := by rw [← hW]; simp [go_sem]
  have hN := h.next hBW
  have hr := h.room
  have hK := vector_normal (.pointer (some ⟨w.heap.size, 0, none⟩)) (fun i => atL l (i : Int)) (fun _ u => Below W.heap.size W u) w.heap.size W (by omega) (Below.refl _ _) (fun _ _ _ a b c => keepJ a b c)
    (fun k hk u hJ _ => (normal1_any k w.heap.size _ l B u ((hJ.cell (p := ⟨w.heap.size, 0, none⟩) (by show w.heap.size < _; omega)).trans hc) (hN.below (hJ.mono (by omega))) hk).mono fun e u' ⟨h1, h2⟩ => by subst h2; exact ⟨h1, hJ, But.refl _ _⟩)
  rw [cl_fit (fun i => atL_bounds l _)] at hK
  subst hW
  clear h hN hr hc hs
  have hmf := makeFunc_run
  go_enter Try.func67, Try.ntmps67
  go_wp2_with (go_at_call 48; (with_reducible refine hK.mono ?_); rintro e w1 ⟨rfl, hE, hJ⟩)
  go_ret
  simp only [World.size_alloc] at hE
  exact ⟨_, rfl, nums_of_eight hE (atL_fit l), hBW.trans (hJ.mono hBW.size)⟩

set_option maxHeartbeats 1000000 in
theorem join1_any (k p q : Nat) (v1 v2 : Value) (l1 l2 : List Int) (B1 B2 : Nat) (u : World) (c1 : u.cell? ⟨p, 0, none⟩ = some v1) (c2 : u.cell? ⟨q, 0, none⟩ = some v2) (h1 : Nums u B1 v1 l1) (h2 : Nums u B2 v2 l2) (hk : k < 8) :
    Calls Try.prog 49 #[.int .i64 (k : Int), .pointer (some ⟨p, 0, none⟩), .pointer (some ⟨q, 0, none⟩)] u fun e u' => e = .returned (.int .i64 (max (atL l1 (k : Int)) (atL l2 (k : Int)))) ∧ ∃ n, u' = u.drewN n := by
  have hA := fun n => at_quiet v1 l1 (k : Int) B1 u n h1 (by omega)
  have hB := fun n => at_quiet v2 l2 (k : Int) B2 u n h2 (by omega)
  obtain ⟨x, hx⟩ : ∃ x, atL l1 (k : Int) = x := ⟨_, rfl⟩
  obtain ⟨y, hy⟩ : ∃ y, atL l2 (k : Int) = y := ⟨_, rfl⟩
  rw [hx] at hA ⊢
  rw [hy] at hB ⊢
  clear hk hx hy h1 h2
  go_enter Try.func49, Try.ntmps49
  go_wp2_with fail
  go_quiet (first | (go_at_call 50; with_reducible refine Calls.quiet_of_same (hA _)) | (go_at_call 50; with_reducible refine Calls.quiet_of_same (hB _)))
  go_wp2
  go_ret
  exact ⟨rfl, _, rfl⟩
theorem join_is (v1 v2 : Value) (l1 l2 : List Int) (B1 B2 : Nat) (w : World) (h1 : Nums w B1 v1 l1) (h2 : Nums w B2 v2 l2) : Calls Try.prog 30 #[v1, v2] w (VDone (joinL l1 l2) w) := by
  obtain ⟨a1, cap1, rfl⟩ := h1.slice
  obtain ⟨a2, cap2, rfl⟩ := h2.slice
  obtain ⟨W, hW⟩ : ∃ W, (w.alloc (.cells #[.slice a1 l1.length cap1] 22)).alloc (.cells #[.slice a2 l2.length cap2] 22) = W := ⟨_, rfl⟩
  have hBW : Below w.heap.size w W := by rw [← hW]; exact ((Below.refl _ _).alloc (Nat.le_refl _) _).alloc (by simp) _
  have hs : W.heap.size = w.heap.size + 1 + 1 := by rw [← hW]; simp
  have hc : W.cell? ⟨w.heap.size, 0, none⟩ = some (.slice a1 l1.length cap1) := by rw [← hW]; simp [go_sem]
  have hd : W.cell? ⟨w.heap.size + 1, 0, none⟩ = some (.slice a2 l2.length cap2) := by rw [← hW]; simp [go_sem]
  have hN := h1.next hBW
  have hM := h2.next hBW
  have hr := h1.room
  have hr2 := h2.room
  have hK := vector_join (.pointer (some ⟨w.heap.size, 0, none⟩)) (.pointer (some ⟨w.heap.size + 1, 0, none⟩)) (fun i => max (atL l1 (i : Int)) (atL l2 (i : Int))) (fun _ u => Below W.heap.size W u) w.heap.size W (by omega) (Below.refl _ _) (fun _ _ _ a b c => keepJ a b c)
    (fun k hk u hJ hz => (join1_any k w.heap.size (w.heap.size + 1) _ _ l1 l2 B1 B2 u ((hJ.cell (p := ⟨w.heap.size, 0, none⟩) (by show w.heap.size < _; omega)).trans hc) ((hJ.cell (p := ⟨w.heap.size + 1, 0, none⟩) (by show w.heap.size + 1 < _; omega)).trans hd) (hN.below (hJ.mono (by omega))) (hM.below (hJ.mono (by omega))) hk).mono fun e u' ⟨e1, n, e2⟩ => by subst e2; exact ⟨e1, hJ.trans ((below_drawn _ _).mono (by omega)), But.of (below_drawn _ _)⟩)
  rw [cl_fit (fun i => by have := atL_bounds l1 (i : Int); have := atL_bounds l2 (i : Int); omega)] at hK
  subst hW
  clear h1 h2 hN hM hr hr2 hc hd hs
  have hmf := makeFunc_run
  go_enter Try.func30, Try.ntmps30
  go_wp2_with (go_at_call 48; (with_reducible refine hK.mono ?_); rintro e w1 ⟨rfl, hE, hJ⟩)
  go_ret
  simp only [World.size_alloc] at hE
  exact ⟨_, rfl, nums_of_eight hE (join_fit l1 l2), hBW.trans (hJ.mono hBW.size)⟩

theorem with1_yes (k : Nat) (b0 b1 b2 : Nat) (s n : Int) (v : Value) (u : World) (c0 : u.cell? ⟨b0, 0, none⟩ = some (.int .i64 s)) (c1 : u.cell? ⟨b1, 0, none⟩ = some (.int .i64 n)) (_c2 : u.cell? ⟨b2, 0, none⟩ = some v) (hk : (k : Int) = s) :
    Calls Try.prog 52 #[.int .i64 (k : Int), .pointer (some ⟨b0, 0, none⟩), .pointer (some ⟨b1, 0, none⟩), .pointer (some ⟨b2, 0, none⟩)] u fun e u' => e = .returned (.int .i64 n) ∧ u = u' := by
  subst hk
  go_enter Try.func52, Try.ntmps52
  go_wp2
  go_ret
  exact ⟨rfl, rfl⟩
theorem with1_no (k : Nat) (b0 b1 b2 : Nat) (s n : Int) (v : Value) (l : List Int) (B : Nat) (u : World) (c0 : u.cell? ⟨b0, 0, none⟩ = some (.int .i64 s)) (_c1 : u.cell? ⟨b1, 0, none⟩ = some (.int .i64 n)) (c2 : u.cell? ⟨b2, 0, none⟩ = some v) (h : Nums u B v l) (hk8 : k < 8) (hk : ¬ (k : Int) = s) :
    Calls Try.prog 52 #[.int .i64 (k : Int), .pointer (some ⟨b0, 0, none⟩), .pointer (some ⟨b1, 0, none⟩), .pointer (some ⟨b2, 0, none⟩)] u fun e u' => e = .returned (.int .i64 (atL l (k : Int))) ∧ u = u' := by
  have hA := at_any v l (k : Int) B u h (by omega)
  have hk2 : ((k : Int) == s) = false := by simpa using hk
  clear hk hk8
  go_enter Try.func52, Try.ntmps52
  go_wp2_with (go_at_call 50; (with_reducible refine hA.mono ?_); rintro e w1 ⟨rfl, rfl⟩)
  go_ret
  exact ⟨rfl, rfl⟩
theorem withF (a : List Int) (s n : Int) : (fun i : Nat => cl (if (i : Int) = s then n else atL a (i : Int))) = fun i : Nat => if (i : Int) = s then cl n else atL a (i : Int) := by
  funext i
  by_cases h : (i : Int) = s
  · rw [if_pos h, if_pos h]
  · rw [if_neg h, if_neg h, cl_in (atL_bounds a _).1 (atL_bounds a _).2]
theorem with_is (v : Value) (l : List Int) (s n : Int) (B : Nat) (w : World) (h : Nums w B v l) : Calls Try.prog 35 #[v, .int .i64 s, .int .i64 n] w (VDone (withL l s n) w) := by
  obtain ⟨a0, cap0, rfl⟩ := h.slice
  obtain ⟨W, hW⟩ : ∃ W, ((w.alloc (.cells #[.slice a0 l.length cap0] 22)).alloc (.cells #[.int .i64 s] 3)).alloc (.cells #[.int .i64 n] 3) = W := ⟨_, rfl⟩
  have hBW : Below w.heap.size w W := by rw [← hW]; exact (((Below.refl _ _).alloc (Nat.le_refl _) _).alloc (by simp) _).alloc (by simp; omega) _
  have hs : W.heap.size = w.heap.size + 1 + 1 + 1 := by rw [← hW]; simp
  have hc : W.cell? ⟨w.heap.size, 0, none⟩ = some (.slice a0 l.length cap0) := by rw [← hW]; simp [go_sem]
  have hd : W.cell? ⟨w.heap.size + 1, 0, none⟩ = some (.int .i64 s) := by rw [← hW]; simp [go_sem]
  have he : W.cell? ⟨w.heap.size + 1 + 1, 0, none⟩ = some (.int .i64 n) := by rw [← hW]; simp [go_sem]
  have hN := h.next hBW
  have hr := h.room
  have hK := vector_with (.pointer (some ⟨w.heap.size + 1, 0, none⟩)) (.pointer (some ⟨w.heap.size + 1 + 1, 0, none⟩)) (.pointer (some ⟨w.heap.size, 0, none⟩)) (fun i => if (i : Int) = s then n else atL l (i : Int)) (fun _ u => Below W.heap.size W u) w.heap.size W (by omega) (Below.refl _ _) (fun _ _ _ a b c => keepJ a b c)
    (fun k hk u hJ hz => by
      have k0 := (hJ.cell (p := ⟨w.heap.size, 0, none⟩) (by show w.heap.size < _; omega)).trans hc
      have k1 := (hJ.cell (p := ⟨w.heap.size + 1, 0, none⟩) (by show w.heap.size + 1 < _; omega)).trans hd
      have k2 := (hJ.cell (p := ⟨w.heap.size + 1 + 1, 0, none⟩) (by show w.heap.size + 1 + 1 < _; omega)).trans he
      by_cases hks : (k : Int) = s
      · simp only [if_pos hks]
        exact (with1_yes k _ _ _ s n _ u k1 k2 k0 hks).mono fun e u' ⟨h1, h2⟩ => by subst h2; exact ⟨h1, hJ, But.refl _ _⟩
      · simp only [if_neg hks]
        exact (with1_no k _ _ _ s n _ l B u k1 k2 k0 (hN.below (hJ.mono (by omega))) hk hks).mono fun e u' ⟨h1, h2⟩ => by subst h2; exact ⟨h1, hJ, But.refl _ _⟩)
  rw [withF] at hK
  subst hW
  clear h hN hr hc hd he hs
  have hmf := makeFunc_run
  go_enter Try.func35, Try.ntmps35
  go_wp2_with (go_at_call 48; (with_reducible refine hK.mono ?_); rintro e w1 ⟨rfl, hE, hJ⟩)
  go_ret
  simp only [World.size_alloc] at hE
  exact ⟨_, rfl, nums_of_eight hE (with_fit l s n), hBW.trans (hJ.mono hBW.size)⟩
end Go.Proofs.Ythifmfgnblecbaa

/- Contracts of package mark's Covers, Compare, Right, Text, of slices.Equal, and of the document's Same. -/
namespace Go.Proofs.Ythifmfgnblecbaa
open Go.RowKit Go.Proofs.Ythifmfgnblecbaa.Vi Go.Proofs.Ythifmfgnblecbaa.Mk

theorem covers_is (v1 v2 : Value) (l1 l2 : List Int) (B1 B2 : Nat) (w : World) (h1 : Nums w B1 v1 l1) (h2 : Nums w B2 v2 l2) : Calls Try.prog 51 #[v1, v2] w fun e w' => e = .returned (.bool (covL l1 l2)) ∧ w = w' := by
  obtain ⟨z, hz⟩ : ∃ z, covL l1 l2 = z := ⟨_, rfl⟩
  have HZ := Lib.hid hz
  rw [hz]
  have hA : ∀ k : Nat, k < 8 → _ := fun k hk => at_any v1 l1 (k : Int) B1 w h1 (by omega)
  have hB : ∀ k : Nat, k < 8 → _ := fun k hk => at_any v2 l2 (k : Int) B2 w h2 (by omega)
  have HA := Lib.hid hA
  have HB := Lib.hid hB
  clear hz hA hB h1 h2
  go_enter Try.func51, Try.ntmps51
  go_wp2
  go_loopw [6] (fun i wr => ∃ k : Nat, k ≤ 8 ∧ i = .int .i64 (k : Int) ∧ w = wr ∧ ∀ j : Nat, j < k → atL l2 (j : Int) ≤ atL l1 (j : Int)) (fun i _ => 8 - (intOf i).toNat)
  case atStart => exact ⟨0, by omega, rfl, rfl, fun j hj => absurd hj (Nat.not_lt_zero _)⟩
  case round =>
    obtain ⟨k, hk, rfl, rfl, hall⟩ := hrel
    by_cases hk8 : k < 8
    · have hk2 : (k : Int) < 8 := by omega
      have hA := HA.out k hk8
      have hB := HB.out k hk8
      obtain ⟨x, hx⟩ : ∃ x, atL l1 (k : Int) = x := ⟨_, rfl⟩
      obtain ⟨y, hy⟩ : ∃ y, atL l2 (k : Int) = y := ⟨_, rfl⟩
      rw [hx] at hA
      rw [hy] at hB
      have HX := Lib.hid hx
      have HY := Lib.hid hy
      have HALL := Lib.hid hall
      clear hx hy hall
      by_cases hxy : x < y
      · go_wp2_with (first
          | (go_at_call 50; (with_reducible refine hA.mono ?_); rintro e w1 ⟨rfl, rfl⟩)
          | (go_at_call 50; (with_reducible refine hB.mono ?_); rintro e w1 ⟨rfl, rfl⟩))
        go_ret
        exact ⟨by rw [← HZ.out, cov_no hk8 (by rw [HX.out, HY.out]; exact hxy)]; rfl, by first | rfl | trivial⟩
      · go_wp2_with (first
          | (go_at_call 50; (with_reducible refine hA.mono ?_); rintro e w1 ⟨rfl, rfl⟩)
          | (go_at_call 50; (with_reducible refine hB.mono ?_); rintro e w1 ⟨rfl, rfl⟩))
        go_roundw
        case rel =>
          refine ⟨k + 1, by omega, by go_num, by first | rfl | trivial, fun j hj => ?_⟩
          by_cases e : j = k
          · subst e; rw [HX.out, HY.out]; omega
          · exact HALL.out j (by omega)
        case measure => simp [intOf]; omega
    · obtain rfl : k = 8 := by omega
      have HALL := Lib.hid hall
      clear hall hk8
      go_wp2
      go_ret
      exact ⟨by rw [← HZ.out, cov_all HALL.out (Nat.le_refl _)]; rfl, by first | rfl | trivial⟩

/-- Whether two lists are the same. -/
def sameL (a b : List Int) : Bool := decide (a = b)
theorem sameL_len {a b : List Int} (h : a.length ≠ b.length) : sameL a b = false := by
  unfold sameL; simp; intro e; exact h (by rw [e])
theorem sameL_no {a b : List Int} {k : Nat} (h1 : k < a.length) (h2 : k < b.length) (h : a[k] ≠ b[k]) : sameL a b = false := by
  unfold sameL; simp; rintro rfl; exact h rfl
theorem sameL_yes {a b : List Int} (hl : a.length = b.length) (h : ∀ j (h1 : j < a.length) (h2 : j < b.length), a[j] = b[j]) : sameL a b = true := by
  unfold sameL; simp; exact List.ext_getElem hl h
theorem Nums.cell {w : World} {B : Nat} {a : Option Addr} {len cap : Nat} {l : List Int} (h : Nums w B (.slice a len cap) l) (h0 : 0 < l.length) : len = l.length ∧ ∃ b off, a = some ⟨b, off, none⟩ ∧ ∀ j (h : j < l.length), w.cell? ⟨b, off + j, none⟩ = some (.int .i64 l[j]) := by
  obtain ⟨⟨a', cap', h1, h2⟩, _⟩ := h
  injection h1 with e1 e2 e3
  subst e1 e2
  rcases h2 with rfl | ⟨b, off, h3, _, h4⟩
  · simp at h0
  · exact ⟨rfl, b, off, h3, h4⟩

-- TWICE

set_option maxHeartbeats 1000000 in
theorem equal_is (v1 v2 : Value) (l1 l2 : List Int) (B1 B2 : Nat) (w : World) (h1 : Nums w B1 v1 l1) (h2 : Nums w B2 v2 l2) : Calls Try.prog 66 #[v1, v2] w fun e w' => e = .returned (.bool (sameL l1 l2)) ∧ Below w.heap.size w w' := by
  obtain ⟨z, hz⟩ : ∃ z, sameL l1 l2 = z := ⟨_, rfl⟩
  have HZ := Lib.hid hz
  rw [hz]
  clear hz
  obtain ⟨a1, cap1, rfl⟩ := h1.slice
  obtain ⟨a2, cap2, rfl⟩ := h2.slice
  have hr1 := h1.room
  have hr2 := h2.room
  have hs1 := h1.size
  have hs2 := h2.size
  have H1 := Lib.hid h1
  have H2 := Lib.hid h2
  clear h1 h2
  by_cases hlen : l1.length = l2.length
  · obtain ⟨n, hn⟩ : ∃ n, l2.length = n := ⟨_, rfl⟩
    have HN := Lib.hid hn
    have HN1 := Lib.hid (hlen.trans hn)
    rw [hlen.trans hn, hn]
    rw [hn] at hs2
    clear hlen hn hs1
    go_enter Try.func66, Try.ntmps66
    go_wp2
    go_loopw [13] (fun i wr => ∃ k : Nat, k ≤ n ∧ i = .int .i64 (k : Int) ∧ Below w.heap.size w wr ∧ ∀ j (h1 : j < l1.length) (h2 : j < l2.length), j < k → l1[j] = l2[j]) (fun i _ => n - (intOf i).toNat)
    case atStart => exact ⟨0, by omega, rfl, Below.refl _ _, fun j _ _ hj => absurd hj (Nat.not_lt_zero _)⟩
    case round =>
      obtain ⟨k, hk, rfl, hbel, hall⟩ := hrel
      have HALL := Lib.hid hall
      clear hall
      by_cases hkn : k < n
      · have hk2 : (k : Int) < (n : Int) := by omega
        have hkl1 : k < l1.length := by rw [HN1.out]; exact hkn
        have hkl2 : k < l2.length := by rw [HN.out]; exact hkn
        obtain ⟨-, b1, off1, rfl, g1⟩ := (H1.out.next hbel).cell (by omega)
        obtain ⟨-, b2, off2, rfl, g2⟩ := (H2.out.next hbel).cell (by omega)
        have c1 := g1 k hkl1
        have c2 := g2 k hkl2
        obtain ⟨x, hx⟩ : ∃ x, l1[k] = x := ⟨_, rfl⟩
        obtain ⟨y, hy⟩ : ∃ y, l2[k] = y := ⟨_, rfl⟩
        rw [hx] at c1
        rw [hy] at c2
        have HX := Lib.hid hx
        have HY := Lib.hid hy
        have HB := Lib.hid hbel
        clear g1 g2 hx hy hbel
        by_cases hxy : x = y
        · have hq : (x == y) = true := by simpa using hxy
          clear hkn
          go_wp2_with fail
          go_quiet (fail)
          go_wp2
          go_roundw
          case rel =>
            refine ⟨k + 1, by omega, by go_num, below_drewN HB.out _, fun j h1 h2 hj => ?_⟩
            by_cases e : j = k
            · subst e; rw [HX.out, HY.out]; exact hxy
            · exact HALL.out j h1 h2 (by omega)
          case measure => simp [intOf]; omega
        · have hq : (x == y) = false := by simpa using hxy
          have HNE := Lib.hid hxy
          clear hxy
          go_wp2_with fail
          go_quiet (fail)
          go_wp2
          go_ret
          exact ⟨by rw [← HZ.out, sameL_no (k := k) (by rw [HN1.out]; exact hkn) (by rw [HN.out]; exact hkn) (by rw [HX.out, HY.out]; exact HNE.out)]; rfl, below_drewN HB.out _⟩
      · obtain rfl : k = n := by omega
        have hk2 : ¬ (k : Int) < (k : Int) := by omega
        clear hkn
        go_wp2
        go_ret
        exact ⟨by rw [← HZ.out, sameL_yes (HN1.out.trans HN.out.symm) fun j h1 h2 => HALL.out j h1 h2 (by rw [← HN1.out]; exact h1)]; rfl, hbel⟩
  · have hl2 : ((l1.length : Int) == (l2.length : Int)) = false := by simp; omega
    have HL := Lib.hid (sameL_len hlen)
    clear hlen
    go_enter Try.func66, Try.ntmps66
    go_wp2
    go_ret
    exact ⟨by rw [← HZ.out, HL.out]; rfl, Below.refl _ _⟩

set_option maxHeartbeats 1000000 in
theorem rsame_is (v1 v2 : Value) (l1 l2 : List Int) (B1 B2 : Nat) (w : World) (h1 : Nums w B1 v1 l1) (h2 : Nums w B2 v2 l2) : Calls Try.prog 18 #[v1, v2] w fun e w' => e = .returned (.bool (sameL l1 l2)) ∧ Below w.heap.size w w' := by
  obtain ⟨z, hz⟩ : ∃ z, sameL l1 l2 = z := ⟨_, rfl⟩
  have HZ := Lib.hid hz
  rw [hz]
  clear hz
  obtain ⟨a1, cap1, rfl⟩ := h1.slice
  obtain ⟨a2, cap2, rfl⟩ := h2.slice
  have hr1 := h1.room
  have hr2 := h2.room
  have hs1 := h1.size
  have hs2 := h2.size
  have H1 := Lib.hid h1
  have H2 := Lib.hid h2
  clear h1 h2
  by_cases hlen : l1.length = l2.length
  · obtain ⟨n, hn⟩ : ∃ n, l2.length = n := ⟨_, rfl⟩
    have HN := Lib.hid hn
    have HN1 := Lib.hid (hlen.trans hn)
    rw [hlen.trans hn, hn]
    rw [hn] at hs2
    clear hlen hn hs1
    go_enter Try.func18, Try.ntmps18
    go_wp2
    go_loopw [5] (fun i wr => ∃ k : Nat, k ≤ n ∧ i = .int .i64 (k : Int) ∧ Below w.heap.size w wr ∧ ∀ j (h1 : j < l1.length) (h2 : j < l2.length), j < k → l1[j] = l2[j]) (fun i _ => n - (intOf i).toNat)
    case atStart => exact ⟨0, by omega, rfl, Below.refl _ _, fun j _ _ hj => absurd hj (Nat.not_lt_zero _)⟩
    case round =>
      obtain ⟨k, hk, rfl, hbel, hall⟩ := hrel
      have HALL := Lib.hid hall
      clear hall
      by_cases hkn : k < n
      · have hk2 : (k : Int) < (n : Int) := by omega
        have hkl1 : k < l1.length := by rw [HN1.out]; exact hkn
        have hkl2 : k < l2.length := by rw [HN.out]; exact hkn
        obtain ⟨-, b1, off1, rfl, g1⟩ := (H1.out.next hbel).cell (by omega)
        obtain ⟨-, b2, off2, rfl, g2⟩ := (H2.out.next hbel).cell (by omega)
        have c1 := g1 k hkl1
        have c2 := g2 k hkl2
        obtain ⟨x, hx⟩ : ∃ x, l1[k] = x := ⟨_, rfl⟩
        obtain ⟨y, hy⟩ : ∃ y, l2[k] = y := ⟨_, rfl⟩
        rw [hx] at c1
        rw [hy] at c2
        have HX := Lib.hid hx
        have HY := Lib.hid hy
        have HB := Lib.hid hbel
        clear g1 g2 hx hy hbel
        by_cases hxy : x = y
        · have hq : (x == y) = true := by simpa using hxy
          clear hkn
          go_wp2_with fail
          go_quiet (fail)
          go_wp2
          go_roundw
          case rel =>
            refine ⟨k + 1, by omega, by go_num, below_drewN HB.out _, fun j h1 h2 hj => ?_⟩
            by_cases e : j = k
            · subst e; rw [HX.out, HY.out]; exact hxy
            · exact HALL.out j h1 h2 (by omega)
          case measure => simp [intOf]; omega
        · have hq : (x == y) = false := by simpa using hxy
          have HNE := Lib.hid hxy
          clear hxy
          go_wp2_with fail
          go_quiet (fail)
          go_wp2
          go_ret
          exact ⟨by rw [← HZ.out, sameL_no (k := k) (by rw [HN1.out]; exact hkn) (by rw [HN.out]; exact hkn) (by rw [HX.out, HY.out]; exact HNE.out)]; rfl, below_drewN HB.out _⟩
      · obtain rfl : k = n := by omega
        have hk2 : ¬ (k : Int) < (k : Int) := by omega
        clear hkn
        go_wp2
        go_ret
        exact ⟨by rw [← HZ.out, sameL_yes (HN1.out.trans HN.out.symm) fun j h1 h2 => HALL.out j h1 h2 (by rw [← HN1.out]; exact h1)]; rfl, hbel⟩
  · have hl2 : ((l1.length : Int) == (l2.length : Int)) = false := by simp; omega
    have HL := Lib.hid (sameL_len hlen)
    clear hlen
    go_enter Try.func18, Try.ntmps18
    go_wp2
    go_ret
    exact ⟨by rw [← HZ.out, HL.out]; rfl, Below.refl _ _⟩

/-- At most twelve numbers of it. -/
def CutN (B : Nat) (l : List Int) (w : World) (e : Ending) (w' : World) : Prop := ∃ v', e = .returned v' ∧ Nums w B v' (l.take 12) ∧ w = w'
theorem right_is (v : Value) (l : List Int) (B : Nat) (w : World) (h : Nums w B v l) : Calls Try.prog 56 #[v] w fun e w' => e = .returned (.bool (sameL l (plainL l))) ∧ Below w.heap.size w w' := by
  have hn := normal_is v l B w h
  obtain ⟨z, hz⟩ : ∃ z, sameL l (plainL l) = z := ⟨_, rfl⟩
  have hq := fun v' w' (h' : Nums w' w'.heap.size v' (plainL l)) (hb : Below w.heap.size w w') => equal_is v v' l (plainL l) B w'.heap.size w' (h.next hb) h'
  rw [hz] at hq ⊢
  clear h hz
  go_enter Try.func56, Try.ntmps56
  go_wp2_with (first
    | (go_at_call 67; (with_reducible refine hn.mono ?_); rintro e w1 ⟨v1, rfl, hN1, hb1⟩)
    | (go_at_call 66; (with_reducible refine (hq _ _ hN1 hb1).mono ?_); rintro e w2 ⟨rfl, hb2⟩))
  go_ret
  exact ⟨rfl, hb1.trans (hb2.mono hb1.size)⟩

/-- The bytes of numbers, one behind the other. -/
def encL (l : List Int) : List UInt8 := l.flatMap fun n => enc n.toNat
def textL (l : List Int) : List UInt8 := enc l.length ++ encL l
theorem encL_snoc (l : List Int) (k : Nat) (h : k < l.length) : encL (l.take (k + 1)) = encL (l.take k) ++ enc (l[k]).toNat := by
  unfold encL
  rw [List.take_succ_eq_append_getElem h, List.flatMap_append]; simp
theorem encL_len (l : List Int) (h : ∀ n ∈ l, 0 ≤ n ∧ n ≤ 1099511627776) : (encL l).length ≤ 10 * l.length := by
  induction l with
  | nil => simp [encL]
  | cons a t ih =>
    have h1 := ih fun n hn => h n (List.mem_cons_of_mem _ hn)
    have h2 := h a (List.mem_cons_self ..)
    have h3 := enc_len10 a.toNat (by omega)
    have e : encL (a :: t) = enc a.toNat ++ encL t := by simp [encL]
    rw [e, List.length_append, List.length_cons]; omega
theorem textL_len (l : List Int) (h : ∀ n ∈ l, 0 ≤ n ∧ n ≤ 1099511627776) (hl : l.length ≤ 8) : (textL l).length ≤ 90 := by
  have h1 := encL_len l h
  have h2 := enc_len10 l.length (by omega)
  unfold textL; rw [List.length_append]; omega
theorem u64_in (n : Int) (h0 : 0 ≤ n) (h1 : n ≤ 1099511627776) : IntKind.u64.wrap n = n := by rw [IntKind.wrap_u64]; omega

end Go.Proofs.Ythifmfgnblecbaa

/- Contracts of Bytes and Take, of package mark and of the document. -/
namespace Go.Proofs.Ythifmfgnblecbaa
open Go.RowKit Go.Proofs.Ythifmfgnblecbaa.Vi Go.Proofs.Ythifmfgnblecbaa.Mk

/-- A stamp's bytes. -/
def St.bytes (a : St) : List UInt8 := if a.ok then enc a.c.toNat ++ enc a.s.toNat ++ enc a.q.toNat else []
theorem St.bytes_yes {a : St} (h : a.ok = true) : a.bytes = enc a.c.toNat ++ enc a.s.toNat ++ enc a.q.toNat := if_pos h
theorem St.bytes_no {a : St} (h : a.ok = false) : a.bytes = [] := by unfold St.bytes; rw [if_neg]; simp [h]
theorem St.ok_iff {a : St} : a.ok = true ↔ 1 ≤ a.c ∧ a.c ≤ 1099511627776 ∧ 0 ≤ a.s ∧ a.s ≤ 7 ∧ 1 ≤ a.q ∧ a.q ≤ 1099511627776 := by unfold St.ok; simp
theorem checkV (a : St) (x : Int) (hx : Hid (a.err = x)) (w : World) : Calls Try.prog 55 #[.agg #[.int .i64 a.c, .int .i64 a.s, .int .i64 a.q]] w fun e w' => e = .returned (.int .i64 x) ∧ Below w.heap.size w w' := by
  have := check_is a w
  rw [hx.out] at this; exact this
theorem rcheckV (a : St) (x : Int) (hx : Hid (a.err = x)) (w : World) : Calls Try.prog 60 #[.agg #[.int .i64 a.c, .int .i64 a.s, .int .i64 a.q]] w fun e w' => e = .returned (.int .i64 x) ∧ Below w.heap.size w w' := by
  have := rcheck_is a w
  rw [hx.out] at this; exact this
/-- One stamp in its block. -/
structure Held1 (w : World) (b : Nat) (a : St) (w' : World) : Prop where
  h : StAt w' b a
  bel : Below w.heap.size w w'
theorem Held1.keep {w w1 w2 : World} {b : Nat} {a : St} (h : Held1 w b a w1) (k : Below w1.heap.size w1 w2) : Held1 w b a w2 := ⟨h.h.below k, bel_next h.bel k⟩
theorem Held1.drew {w w1 : World} {b : Nat} {a : St} (h : Held1 w b a w1) : Held1 w b a w1.drew := h.keep ((Below.refl _ _).drew)

theorem RA.other {w : World} {b : Nat} {r : ByteArray} {br : Bool} (h : RA w b r br) (a : Addr) (v : Value) (hne : a.block ≠ b) : RA (w.setCell a v) b r br :=
  ⟨by rw [World.cell?_setCell_far _ _ _ _ hne]; exact h.c0, by rw [World.cell?_setCell_far _ _ _ _ hne]; exact h.c1, by simp [go_sem, h.f0], by simp [go_sem, h.f1]⟩
theorem But.far {b : Nat} {u w : World} (h : But b u w) (a : Addr) (v : Value) (ha : u.heap.size ≤ a.block) : But b u (w.setCell a v) :=
  ⟨h.os, h.tape, h.output, by simpa [World.setCell] using h.size, fun k hk hb => by rw [← h.block k hk hb]; exact Below.heap_setCell _ _ _ _ (by omega)⟩
theorem Out.but {w w' : World} {b d : Nat} (h : Out w b) (k : But d w w') (hd : b ≠ d) : Out w' b :=
  ⟨(k.cell (p := ⟨b, 0, none⟩) hd h.room).trans h.z0, (k.cell (p := ⟨b, 1, none⟩) hd h.room).trans h.z1, (k.cell (p := ⟨b, 2, none⟩) hd h.room).trans h.z2, (k.frozen (p := ⟨b, 0, none⟩) hd h.room).trans h.y0, (k.frozen (p := ⟨b, 1, none⟩) hd h.room).trans h.y1, (k.frozen (p := ⟨b, 2, none⟩) hd h.room).trans h.y2⟩
theorem StAt.but {w w' : World} {b d : Nat} {a : St} (h : StAt w b a) (k : But d w w') (hd : b ≠ d) : StAt w' b a :=
  ⟨(k.cell (p := ⟨b, 0, none⟩) hd h.room).trans h.c0, (k.cell (p := ⟨b, 1, none⟩) hd h.room).trans h.c1, (k.cell (p := ⟨b, 2, none⟩) hd h.room).trans h.c2⟩
theorem StAt.other {w : World} {b : Nat} {a : St} (h : StAt w b a) (x : Addr) (v : Value) (hne : x.block ≠ b) : StAt (w.setCell x v) b a :=
  ⟨by rw [World.cell?_setCell_far _ _ _ _ hne]; exact h.c0, by rw [World.cell?_setCell_far _ _ _ _ hne]; exact h.c1, by rw [World.cell?_setCell_far _ _ _ _ hne]; exact h.c2⟩
theorem StAt.set {w : World} {b : Nat} {a : St} (h : StAt w b a) (z : St) : StAt (((w.setCell ⟨b, 0, none⟩ (.int .i64 z.c)).setCell ⟨b, 1, none⟩ (.int .i64 z.s)).setCell ⟨b, 2, none⟩ (.int .i64 z.q)) b z := by
  obtain ⟨c0, c1, c2⟩ := h
  exact ⟨by simp [go_sem, c0], by simp [go_sem, c1], by simp [go_sem, c2]⟩
theorem but_new {b : Nat} {w a : World} (h : But b w a) (o : Obj) : But b w (a.alloc o) := h.alloc o
theorem but_next {b : Nat} {w a c : World} (h : But b w a) (k : But b a c) : But b w c := h.trans k
theorem but_bel {b : Nat} {w a c : World} (h : But b w a) (k : Below a.heap.size a c) : But b w c := h.trans (But.of k)

/-- The stamp that three calls of Small answer, and what is left. -/
def takeQ (r : ByteArray) (br : Bool) : St × ByteArray × Bool :=
  let x1 := smallQ r br 1099511627776
  let x2 := smallQ x1.2.1 x1.2.2 7
  let x3 := smallQ x2.2.1 x2.2.2 1099511627776
  if (St.mk x1.1 x2.1 x3.1).ok then (St.mk x1.1 x2.1 x3.1, x3.2.1, x3.2.2) else (⟨0, 0, 0⟩, ⟨#[]⟩, true)
theorem smallQ_inv {r r' : ByteArray} {br br' : Bool} {m v : Int} (H : smallQ r br m = (v, r', br')) (h : br = true → r = ⟨#[]⟩) : (br' = true → r' = ⟨#[]⟩ ∧ v = 0) ∧ (br' = false → br = false) ∧ r'.size ≤ r.size := by
  unfold smallQ at H
  split at H
  · rename_i hb
    simp at H
    obtain ⟨rfl, rfl, rfl⟩ := H
    exact ⟨fun _ => ⟨h hb, rfl⟩, fun e => (by cases e), Nat.le_refl _⟩
  · split at H
    · simp at H
      obtain ⟨rfl, rfl, rfl⟩ := H
      exact ⟨fun _ => ⟨rfl, rfl⟩, fun e => (by cases e), Nat.zero_le _⟩
    · rename_i u r1 hf
      have := (numF_bounds hf).2
      split at H
      · rename_i hb _ _
        simp at H
        obtain ⟨rfl, rfl, rfl⟩ := H
        exact ⟨fun e => (by cases e), fun _ => (by simpa using hb), this⟩
      · simp at H
        obtain ⟨rfl, rfl, rfl⟩ := H
        exact ⟨fun _ => ⟨rfl, rfl⟩, fun e => (by cases e), Nat.zero_le _⟩
theorem smallQ_neg {r : ByteArray} {br : Bool} (h : br = true → r = ⟨#[]⟩) : smallQ r br (-1) = (0, ⟨#[]⟩, true) := by
  unfold smallQ
  cases br with
  | true => rw [if_pos rfl, h rfl]
  | false =>
    rw [if_neg (by simp)]
    split
    · rfl
    · rw [if_neg (by omega)]
/-- What Take's three calls answer, one by one, and what that makes. -/
theorem takeQ_parts {r r' : ByteArray} {br br' : Bool} {a : St} (H : takeQ r br = (a, r', br')) (h : br = true → r = ⟨#[]⟩) : ∃ v1 r1 b1 v2 r2 b2 v3 r3 b3,
    smallQ r br 1099511627776 = (v1, r1, b1) ∧ smallQ r1 b1 7 = (v2, r2, b2) ∧ smallQ r2 b2 1099511627776 = (v3, r3, b3) ∧ (b1 = true → r1 = ⟨#[]⟩) ∧ (b2 = true → r2 = ⟨#[]⟩) ∧ (b3 = true → r3 = ⟨#[]⟩) ∧
    r1.size ≤ r.size ∧ r2.size ≤ r.size ∧ r3.size ≤ r.size ∧
    (((St.mk v1 v2 v3).ok = true ∧ a = St.mk v1 v2 v3 ∧ r' = r3 ∧ br' = b3 ∧ b3 = false) ∨ ((St.mk v1 v2 v3).ok = false ∧ a = ⟨0, 0, 0⟩ ∧ r' = ⟨#[]⟩ ∧ br' = true)) := by
  unfold takeQ at H
  obtain ⟨⟨v1, r1, b1⟩, h1⟩ : ∃ x, smallQ r br 1099511627776 = x := ⟨_, rfl⟩
  obtain ⟨⟨v2, r2, b2⟩, h2⟩ : ∃ x, smallQ r1 b1 7 = x := ⟨_, rfl⟩
  obtain ⟨⟨v3, r3, b3⟩, h3⟩ : ∃ x, smallQ r2 b2 1099511627776 = x := ⟨_, rfl⟩
  simp only [h1, h2, h3] at H
  obtain ⟨i1, j1, s1⟩ := smallQ_inv h1 h
  obtain ⟨i2, j2, s2⟩ := smallQ_inv h2 fun e => (i1 e).1
  obtain ⟨i3, j3, s3⟩ := smallQ_inv h3 fun e => (i2 e).1
  refine ⟨v1, r1, b1, v2, r2, b2, v3, r3, b3, h1, h2, h3, fun e => (i1 e).1, fun e => (i2 e).1, fun e => (i3 e).1, s1, by omega, by omega, ?_⟩
  cases hok : (St.mk v1 v2 v3).ok with
  | true =>
    rw [hok, if_pos rfl] at H
    simp at H
    obtain ⟨rfl, rfl, rfl⟩ := H
    refine Or.inl ⟨rfl, rfl, rfl, rfl, ?_⟩
    cases b3 with
    | false => rfl
    | true =>
      have := (i3 rfl).2
      have := St.ok_iff.1 hok
      simp only at this
      omega
  | false =>
    rw [hok, if_neg (by simp)] at H
    simp at H
    obtain ⟨rfl, rfl, rfl⟩ := H
    exact Or.inr ⟨rfl, rfl, rfl, rfl⟩
theorem takeQ_inv {r r' : ByteArray} {br br' : Bool} {a : St} (H : takeQ r br = (a, r', br')) (h : br = true → r = ⟨#[]⟩) : (br' = true → r' = ⟨#[]⟩) ∧ r'.size ≤ r.size := by
  obtain ⟨v1, r1, b1, v2, r2, b2, v3, r3, b3, h1, h2, h3, i1, i2, i3, s1, s2, s3, ⟨_, _, rfl, rfl, rfl⟩ | ⟨_, _, rfl, rfl⟩⟩ := takeQ_parts H h
  · exact ⟨fun e => (by cases e), s3⟩
  · exact ⟨fun _ => rfl, Nat.zero_le _⟩

theorem RS.other {w : World} {d : Nat} {S r : ByteArray} {br : Bool} (h : RS w d S r br) (x : Addr) (v : Value) (hne : x.block ≠ d) : RS (w.setCell x v) d S r br := by
  obtain ⟨a, bad, ⟨c0, c1, c2, f0, f1, f2⟩, hs⟩ := h
  exact ⟨a, bad, ⟨by rw [World.cell?_setCell_far _ _ _ _ hne]; exact c0, by rw [World.cell?_setCell_far _ _ _ _ hne]; exact c1, by rw [World.cell?_setCell_far _ _ _ _ hne]; exact c2, by simp [go_sem, f0], by simp [go_sem, f1], by simp [go_sem, f2]⟩, hs⟩
theorem RS.below {w w' : World} {d : Nat} {S r : ByteArray} {br : Bool} (h : RS w d S r br) (k : Below w.heap.size w w') : RS w' d S r br := by
  obtain ⟨a, bad, h, s⟩ := h; exact ⟨a, bad, h.below k, s⟩
theorem RS.spoil {w : World} {d : Nat} {S r : ByteArray} {br : Bool} (h : RS w d S r br) : RS (w.setCell ⟨d, 2, none⟩ (.bool true)) d S ⟨#[]⟩ true := by
  obtain ⟨a, bad, h, hs⟩ := h
  exact ⟨a, true, h.spoil, rfl, hs.2.1, fun e => (by cases e), fun _ => rfl⟩

end Go.Proofs.Ythifmfgnblecbaa

/- Contracts of package mark over slices of numbers that may be read ('Ns'). -/
namespace Go.Proofs.Ythifmfgnblecbaa
open Go.RowKit Go.Proofs.Ythifmfgnblecbaa.Vi Go.Proofs.Ythifmfgnblecbaa.Mk

/-- v is a slice of the numbers l. -/
abbrev Ns (w : World) (v : Value) (l : List Int) : Prop := Nums w w.heap.size v l
theorem Ns.later {w w' : World} {v : Value} {l : List Int} (h : Ns w v l) (k : Below w.heap.size w w') : Ns w' v l := (Nums.below h k).mono k.size (Nat.le_refl _)
theorem VDone.ns {l : List Int} {w w' : World} {e : Ending} (h : VDone l w e w') : ∃ v, e = .returned v ∧ Ns w' v l ∧ Below w.heap.size w w' := h
theorem atN (v : Value) (l : List Int) (s : Int) (w : World) (h : Ns w v l) (hs : -9223372036854775808 ≤ s ∧ s ≤ 9223372036854775807) : Calls Try.prog 50 #[v, .int .i64 s] w fun e w' => e = .returned (.int .i64 (atL l s)) ∧ w = w' := at_any v l s _ w h hs
theorem normalN (v : Value) (l : List Int) (w : World) (h : Ns w v l) : Calls Try.prog 67 #[v] w (VDone (plainL l) w) := normal_is v l _ w h
theorem joinN (v1 v2 : Value) (l1 l2 : List Int) (w : World) (h1 : Ns w v1 l1) (h2 : Ns w v2 l2) : Calls Try.prog 30 #[v1, v2] w (VDone (joinL l1 l2) w) := join_is v1 v2 l1 l2 _ _ w h1 h2
theorem withN (v : Value) (l : List Int) (s n : Int) (w : World) (h : Ns w v l) : Calls Try.prog 35 #[v, .int .i64 s, .int .i64 n] w (VDone (withL l s n) w) := with_is v l s n _ w h
theorem coversN (v1 v2 : Value) (l1 l2 : List Int) (w : World) (h1 : Ns w v1 l1) (h2 : Ns w v2 l2) : Calls Try.prog 51 #[v1, v2] w fun e w' => e = .returned (.bool (covL l1 l2)) ∧ w = w' := covers_is v1 v2 l1 l2 _ _ w h1 h2
theorem rsameN (v1 v2 : Value) (l1 l2 : List Int) (w : World) (h1 : Ns w v1 l1) (h2 : Ns w v2 l2) : Calls Try.prog 18 #[v1, v2] w fun e w' => e = .returned (.bool (sameL l1 l2)) ∧ Below w.heap.size w w' := rsame_is v1 v2 l1 l2 _ _ w h1 h2
theorem rightN (v : Value) (l : List Int) (w : World) (h : Ns w v l) : Calls Try.prog 56 #[v] w fun e w' => e = .returned (.bool (sameL l (plainL l))) ∧ Below w.heap.size w w' := right_is v l _ w h
def Small (x : Int) : Prop := 0 ≤ x ∧ x ≤ 100
theorem lit1 (w : World) (b : Nat) (x : Int) (hc : w.cell? ⟨b, 0, none⟩ = some (.int .i64 x)) (hx : Small x) : Nums w w.heap.size (.slice (some ⟨b, 0, none⟩) 1 1) [x] :=
  ⟨⟨_, _, rfl, Or.inr ⟨b, 0, rfl, World.block_lt_of_cell? w _ hc, fun j hj => by
    match j, hj with
    | 0, _ => exact hc⟩⟩, fun n hn => by unfold Small at *; simp at hn; subst hn; omega, by simp, Nat.le_refl _⟩
theorem lit2 (w : World) (b : Nat) (x y : Int) (hc : w.cell? ⟨b, 0, none⟩ = some (.int .i64 x)) (hd : w.cell? ⟨b, 1, none⟩ = some (.int .i64 y)) (hx : Small x) (hy : Small y) : Nums w w.heap.size (.slice (some ⟨b, 0, none⟩) 2 2) [x, y] :=
  ⟨⟨_, _, rfl, Or.inr ⟨b, 0, rfl, World.block_lt_of_cell? w _ hc, fun j hj => by
    match j, hj with
    | 0, _ => exact hc
    | 1, _ => exact hd⟩⟩, fun n hn => by unfold Small at *; simp at hn; omega, by simp, Nat.le_refl _⟩
theorem lit3 (w : World) (b : Nat) (x y z : Int) (hc : w.cell? ⟨b, 0, none⟩ = some (.int .i64 x)) (hd : w.cell? ⟨b, 1, none⟩ = some (.int .i64 y)) (he : w.cell? ⟨b, 2, none⟩ = some (.int .i64 z)) (hx : Small x) (hy : Small y) (hz : Small z) : Nums w w.heap.size (.slice (some ⟨b, 0, none⟩) 3 3) [x, y, z] :=
  ⟨⟨_, _, rfl, Or.inr ⟨b, 0, rfl, World.block_lt_of_cell? w _ hc, fun j hj => by
    match j, hj with
    | 0, _ => exact hc
    | 1, _ => exact hd
    | 2, _ => exact he⟩⟩, fun n hn => by unfold Small at *; simp at hn; omega, by simp, Nat.le_refl _⟩
end Go.Proofs.Ythifmfgnblecbaa

/- Slices of stamps: one that came in, and one that the call makes. -/
namespace Go.Proofs.Ythifmfgnblecbaa
open Go.RowKit Go.Proofs.Ythifmfgnblecbaa.Vi Go.Proofs.Ythifmfgnblecbaa.Mk

/-- A stamp's three cells in block b from o on. -/
structure StO (w : World) (b o : Nat) (a : St) : Prop where
  c0 : w.cell? ⟨b, o, none⟩ = some (.int .i64 a.c)
  c1 : w.cell? ⟨b, o + 1, none⟩ = some (.int .i64 a.s)
  c2 : w.cell? ⟨b, o + 2, none⟩ = some (.int .i64 a.q)
theorem StO.room {w : World} {b o : Nat} {a : St} (h : StO w b o a) : b < w.heap.size := World.block_lt_of_cell? w _ h.c0
theorem StO.below {w w' : World} {b o B : Nat} {a : St} (h : StO w b o a) (k : Below B w w') (hb : b < B) : StO w' b o a :=
  ⟨(k.cell (p := ⟨b, o, none⟩) hb).trans h.c0, (k.cell (p := ⟨b, o + 1, none⟩) hb).trans h.c1, (k.cell (p := ⟨b, o + 2, none⟩) hb).trans h.c2⟩
theorem StO.but {w w' : World} {b o d : Nat} {a : St} (h : StO w b o a) (k : But d w w') (hd : b ≠ d) : StO w' b o a :=
  ⟨(k.cell (p := ⟨b, o, none⟩) hd h.room).trans h.c0, (k.cell (p := ⟨b, o + 1, none⟩) hd h.room).trans h.c1, (k.cell (p := ⟨b, o + 2, none⟩) hd h.room).trans h.c2⟩
/-- A slice of the stamps l, in a block below B. -/
structure Sts (w : World) (B : Nat) (a : Option Addr) (l : List St) : Prop where
  at_ : l = [] ∨ ∃ b off, a = some ⟨b, off, none⟩ ∧ b < B ∧ ∀ j (h : j < l.length), StO w b (off + j * 3) l[j]
theorem Sts.below {w w' : World} {B : Nat} {a : Option Addr} {l : List St} (h : Sts w B a l) (k : Below B w w') : Sts w' B a l := by
  rcases h.at_ with h | ⟨b, off, e, hb, hc⟩
  · exact ⟨Or.inl h⟩
  · exact ⟨Or.inr ⟨b, off, e, hb, fun j hj => (hc j hj).below k hb⟩⟩
theorem Sts.but {w w' : World} {B d : Nat} {a : Option Addr} {l : List St} (h : Sts w B a l) (k : But d w w') (hd : B ≤ d) : Sts w' B a l := by
  rcases h.at_ with h | ⟨b, off, e, hb, hc⟩
  · exact ⟨Or.inl h⟩
  · exact ⟨Or.inr ⟨b, off, e, hb, fun j hj => (hc j hj).but k (by omega)⟩⟩
/-- A slice of stamps that came in. -/
structure ArgStamps (w : World) (a : Option Addr) (len cap : Nat) : Prop where
  has : ∃ l : List St, l.length = len ∧ Sts w w.heap.size a l ∧ len ≤ 9223372036854775807

theorem cellsE : Try.prog.cellsOf 31 = 3 := by kernel_rfl
theorem stamp_of_cells {H : Type} {enc : TypeId × Value → H} {w : World} {base : Nat} {sp : Nat → Bool} {hd : Bool} {n : Nat} {cs : List Value} {x : DataW H × List MemPlace} (hcs : cs.length = 3)
    (h : DataW.trod enc Try.prog w base sp hd n 31 cs = some x) : ∃ a : St, cs = [.int .i64 a.c, .int .i64 a.s, .int .i64 a.q] := by
  match cs, hcs with
  | [c0, c1, c2], _ =>
    obtain ⟨y0, y1, y2, m, _, _, h0, h1, h2⟩ := Go.Deep.trod_struct3 Try.underlying31 h
    have hI : Try.prog.cellsOf 3 = 1 := by kernel_rfl
    simp only [hI, List.drop_zero, List.take_succ_cons, List.take_zero, List.drop_succ_cons] at h0 h1 h2
    obtain ⟨n0, e0, _, _⟩ := DataW.trod_int Try.underlying3 h0
    obtain ⟨n1, e1, _, _⟩ := DataW.trod_int Try.underlying3 h1
    obtain ⟨n2, e2, _, _⟩ := DataW.trod_int Try.underlying3 h2
    simp at e0 e1 e2
    exact ⟨⟨n0, n1, n2⟩, by rw [e0, e1, e2]⟩
end Go.Proofs.Ythifmfgnblecbaa

/- Slices of numbers that came in, as lists. -/
namespace Go.Proofs.Ythifmfgnblecbaa
open Go.RowKit Go.Proofs.Ythifmfgnblecbaa.Vi Go.Proofs.Ythifmfgnblecbaa.Mk

/-- v came in: a slice of the numbers l. -/
structure ArgNs (w : World) (v : Value) (l : List Int) : Prop where
  ns : Ns w v l
  cap : Hid (∃ a len cap, v = .slice a len cap ∧ len ≤ cap)
theorem argNs_of {w : World} {a : Option Addr} {len cap : Nat} (h : ArgInts w a len cap) : ∃ l, ArgNs w (.slice a len cap) l := by
  rcases h with rfl | ⟨b, off, l, rfl, hl, hlc, hm, hc, hw⟩
  · exact ⟨[], (Nums.nil w a cap).mono (Nat.zero_le _) (Nat.le_refl _), a, 0, cap, rfl, Nat.zero_le _⟩
  · subst hl
    by_cases h0 : l.length = 0
    · obtain rfl := List.eq_nil_of_length_eq_zero h0
      exact ⟨[], (Nums.nil w _ cap).mono (Nat.zero_le _) (Nat.le_refl _), _, 0, cap, rfl, Nat.zero_le _⟩
    · exact ⟨l, ⟨⟨_, _, rfl, Or.inr ⟨b, off, rfl, World.block_lt_of_cell? w _ (hc 0 (by omega)), hc⟩⟩, hw, by unfold maxLen at hm; omega, Nat.le_refl _⟩, _, _, _, rfl, hlc⟩
theorem sameL_self (l : List Int) : sameL l l = true := by unfold sameL; simp
end Go.Proofs.Ythifmfgnblecbaa
