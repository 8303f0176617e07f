/- Law SumPieces: what its loop has done, and contracts over the parts that it has collected. -/
import Derived.Test.YtibjnfllagaplaaDoorSumObj
import Derived.Test.YtibjnfllagaplaaDoorSumAwake
import Derived.OwnWalk
import Derived.SliceStrings
import Derived.Deep.DeepHandedRow
namespace Go.Proofs.YtibjnfllagaplaaDoor.sumPieces
open Go.RowKit Go.Proofs.YtibjnfllagaplaaDoor.Crc

theorem infoS : (Tryd.prog.info? 9).map (fun i => (i.zero, i.size, i.bytes)) = some (some (.string ⟨#[]⟩), 1, 16) := by kernel_rfl

/-- A slice of texts that came in: empty, or each of its cells holds a text. -/
def ArgStrs (w : World) (a : Option Addr) (len : Nat) : Prop :=
  len = 0 ∨ ∃ b off, a = some ⟨b, off, none⟩ ∧ b < w.heap.size ∧ ∀ j, j < len → ∃ s : ByteArray, w.cell? ⟨b, off + j, none⟩ = some (.string s)

theorem argStrs_of {H : Type} {enc : TypeId × Value → H} {w : World} {base fuel : Nat} {sp : Nat → Bool} {hd : Bool} {a : Option Addr} {len cap : Nat} {x : DataW H × List MemPlace}
    (h : DataW.trod enc Tryd.prog w base sp hd fuel 32 [.slice a len cap] = some x) : ArgStrs w a len := by
  rcases Go.ChangeShapes.open_strings Tryd.underlying32 Tryd.underlying9 (by kernel_rfl) h with ⟨hcs, _⟩ | ⟨y, l, c, ss, hcs, _, hl, hm, hz, _, hcell, _⟩
  · simp at hcs
    exact Or.inl hcs.2.1
  · simp at hcs
    obtain ⟨rfl, rfl, rfl⟩ := hcs
    by_cases h0 : len = 0
    · exact Or.inl h0
    · have hlen : len ≤ ss.length := by rw [hz]; split <;> omega
      obtain ⟨b, off, spot⟩ := y
      have hc := hcell 0 (by omega)
      have hspot : spot = none := by simpa [Addr.add] using World.cell?_spot hc
      subst hspot
      have hp : ∀ j, (⟨b, off, none⟩ : Addr).add j = ⟨b, off + j, none⟩ := fun j => by unfold Addr.add; split <;> simp_all
      refine Or.inr ⟨b, off, rfl, ?_, fun j hj => ⟨_, by rw [← hp]; exact hcell j (by omega)⟩⟩
      have := World.block_lt_of_cell? w _ hc
      simpa [hp] using this

theorem of_own (base : Nat) (v : Value) (ps : List ByteArray) (c : BitVec 32) (w : World) (hown : w.ownsRow base 9 1 v ps.length (ps.map Value.string)) (hp : ∀ p ∈ ps, p.size ≤ 200) (hl : ps.length ≤ 20) (HC : Hid (crc (flat ps) = c)) (ht : Tab w) :
    Calls Tryd.prog 11 #[v] w fun e w' => e = .returned (.int .u32 (c.toNat : Int)) ∧ w = w' := by
  have hc := HC.out
  rcases hown.2 with ⟨rfl, h0⟩ | ⟨g, cap, cur, rfl, hg, hrow⟩
  · obtain rfl : ps = [] := List.eq_nil_of_length_eq_zero h0
    have : c = 0#32 := by rw [← hc]; exact crc_nil
    subst this
    exact of_none w
  · have := of_any g 0 cap ps w (by unfold maxLen; omega) ht (fun j h => by
      rw [Nat.zero_add]
      have := World.ownsRow.cellAt hown j (by omega)
      rw [this]; simp [h]) (fun j h => by
      have := hp _ (List.getElem_mem h)
      unfold maxLen; omega)
    rwa [hc] at this

/-- The loop's relation: the pieces so far. -/
structure Rel (w wr : World) (bx k : Nat) (v : Value) (al : ByteArray) (ps : List ByteArray) : Prop where
  len : ps.length = k
  size : ∀ p ∈ ps, p.size ≤ 200
  own : wr.ownsRow (bx + 1) 9 1 v ps.length (ps.map Value.string)
  sum : SumAt wr bx (crc (flat ps)) al.size
  all : al.data.toList = flat ps
  below : Below w.heap.size w wr
  room : w.heap.size ≤ bx
  small : al.size ≤ 200 * k

theorem flat_push (ps : List ByteArray) (p : ByteArray) : flat (ps ++ [p]) = flat ps ++ p.data.toList := by
  unfold flat; rw [List.flatMap_append]; simp

/-- Behind the append. -/
theorem Rel.grown {w wr w1 : World} {bx k : Nat} {v : Value} {al : ByteArray} {ps : List ByteArray} {o : Obj} (h : Rel w wr bx k v al ps)
    (hgrow : (wr.alloc o).grownBy w1 v.ownBlock) :
    SumAt w1 bx (crc (flat ps)) al.size ∧ Below w.heap.size w w1 := by
  have hr := h.sum.room
  have hne : some bx ≠ v.ownBlock := fun e => by have := (h.own.lt bx e.symm).1; omega
  have hblk : w1.heap[bx]? = wr.heap[bx]? := by
    rw [hgrow.block bx (by simp; omega) hne]
    exact Below.heap_alloc _ _ _ hr
  refine ⟨⟨(World.cell?_of_block (w := wr) (a := ⟨bx, 0, none⟩) hblk).trans h.sum.check, (World.cell?_of_block (w := wr) (a := ⟨bx, 1, none⟩) hblk).trans h.sum.length, (World.frozen?_of_block (w := wr) (a := ⟨bx, 0, none⟩) hblk).trans h.sum.free0, (World.frozen?_of_block (w := wr) (a := ⟨bx, 1, none⟩) hblk).trans h.sum.free1⟩, ?_⟩
  exact (h.below.alloc h.below.size o).grown hgrow (by have := h.below.size; simp; omega) (fun j hj => by have := (h.own.lt j hj).1; have := h.room; omega)

/-- Behind the whole round. -/
theorem Rel.next {w wr w1 w2 : World} {bx k : Nat} {v v' : Value} {al p : ByteArray} {ps : List ByteArray} (h : Rel w wr bx k v al ps) (hp : p.size ≤ 200)
    (hown : w1.ownsRow (bx + 1) 9 1 v' (ps.length + 1) (ps.map Value.string ++ [.string p])) (hk : Keeps bx w1 w2) (hb : Below w.heap.size w w2)
    (hs : SumAt w2 bx (ext (crc (flat ps)) p.data.toList) (al.size + p.size)) : Rel w w2 bx (k + 1) v' (al ++ p) (ps ++ [p]) := by
  refine ⟨by simp [h.len], ?_, ?_, ?_, ?_, hb, h.room, ?_⟩
  · intro q hq
    rcases List.mem_append.1 hq with h1 | h1
    · exact h.size q h1
    · rw [List.mem_singleton.1 h1]; exact hp
  · have := hk _ _ _ _ _ _ (by omega) hown
    simpa using this
  · rw [ext_crc, ← flat_push] at hs
    rw [ByteArray.size_append]; exact hs
  · rw [flat_push, ByteArray.data_append]
    simp [h.all]
  · have := h.small
    rw [ByteArray.size_append]; omega
end Go.Proofs.YtibjnfllagaplaaDoor.sumPieces
