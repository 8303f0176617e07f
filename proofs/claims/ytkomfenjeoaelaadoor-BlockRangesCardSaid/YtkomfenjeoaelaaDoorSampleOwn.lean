/- Slices of bytes of the call's own: appended to, made of a text, made into a text. -/
import Derived.Test.YtkomfenjeoaelaaDoorMarkB
import Derived.Test.YtkomfenjeoaelaaDoorMarkA
import Derived.Deep.AppendSrc
import Derived.Deep.Upon
import Derived.Deep.MidRow
import Derived.Lib.AppendStr
import Derived.OwnWalk
import Derived.Laws.IdiomStrings
set_option maxRecDepth 20000
namespace Go.Proofs.YtkomfenjeoaelaaDoor
open Go.RowKit Go.Proofs.YtkomfenjeoaelaaDoor.Vi

theorem add_off (b off j : Nat) : (⟨b, off, none⟩ : Addr).add j = ⟨b, off + j, none⟩ := by unfold Addr.add; split <;> simp_all
/-- v is a slice of the bytes xs; its row lies above B, may be written as far as its capacity goes, and v may begin anywhere in it. -/
def OwnB (w : World) (B : Nat) (v : Value) (xs : List UInt8) : Prop := (v = .slice none 0 0 ∧ xs = []) ∨ ∃ g off cap, v = .slice (some ⟨g, off, none⟩) xs.length cap ∧ B ≤ g ∧ g < w.heap.size ∧ xs.length ≤ cap ∧ cap ≤ maxLen ∧
  (∀ j, j < cap → (w.cell? ⟨g, off + j, none⟩).isSome = true ∧ w.frozen? ⟨g, off + j, none⟩ = false) ∧ ∀ j (h : j < xs.length), w.cell? ⟨g, off + j, none⟩ = some (bcellv xs[j])
theorem OwnB.nil (w : World) (B : Nat) : OwnB w B (.slice none 0 0) [] := Or.inl ⟨rfl, rfl⟩
theorem OwnB.slice {w : World} {B : Nat} {v : Value} {xs : List UInt8} (h : OwnB w B v xs) : ∃ a c, v = .slice a xs.length c := by
  rcases h with ⟨rfl, rfl⟩ | ⟨g, off, cap, h, _⟩
  · exact ⟨_, _, rfl⟩
  · exact ⟨_, _, h⟩
/-- Nothing of its row, nor below a number above it, has turned. -/
theorem OwnB.under {w w' : World} {B C : Nat} {v : Value} {xs : List UInt8} (h : OwnB w B v xs) (k : Below C w w') (hC : w.heap.size ≤ C) : OwnB w' B v xs := by
  rcases h with h | ⟨g, off, cap, h1, h2, h3, h4, h5, h6, h7⟩
  · exact Or.inl h
  · have hg : g < C := by omega
    exact Or.inr ⟨g, off, cap, h1, h2, Nat.lt_of_lt_of_le h3 k.size, h4, h5, fun j hj => ⟨by rw [k.cell (p := ⟨g, off + j, none⟩) hg]; exact (h6 j hj).1, by rw [k.frozen (p := ⟨g, off + j, none⟩) hg]; exact (h6 j hj).2⟩,
      fun j hj => (k.cell (p := ⟨g, off + j, none⟩) hg).trans (h7 j hj)⟩
theorem setCells_size (g : Nat) : ∀ (vs : List Value) (o : Nat) (w : World), (w.setCells g o vs).heap.size = w.heap.size ∧ (w.setCells g o vs).tape = w.tape
  | [], _, _ => ⟨rfl, rfl⟩
  | v :: r, o, w => by
    obtain ⟨h1, h2⟩ := setCells_size g r (o + 1) (w.setCell ⟨g, o, none⟩ v)
    exact ⟨h1.trans (by simp), h2.trans (by rfl)⟩
/-- A text's bytes appended to it. -/
theorem OwnB.append {w : World} {B : Nat} {v : Value} {xs : List UInt8} (h : OwnB w B v xs) (hB : B ≤ w.heap.size) (s : ByteArray) (hs : xs.length + s.size ≤ 100000000) (ty : TypeId) :
    ∃ v' w', (Builtin.append_ #[49, 9] ty #[v, .string s]).run Tryd.prog w = .ok v' w' ∧ OwnB w' B v' (xs ++ s.data.toList) ∧ Below B w w' ∧ (∀ p : Addr, p.block < B → w'.cell? p = w.cell? p ∧ w'.frozen? p = w.frozen? p) := by
  obtain ⟨i0, hi, hz0, hz1, hz2⟩ := info_parts infoB
  have fin : ∀ {v' w'}, (Builtin.append_ #[49, 9] ty #[v, .string s]).run Tryd.prog w = .ok v' w' → OwnB w' B v' (xs ++ s.data.toList) → Below B w w' →
      ∃ v' w', (Builtin.append_ #[49, 9] ty #[v, .string s]).run Tryd.prog w = .ok v' w' ∧ OwnB w' B v' (xs ++ s.data.toList) ∧ Below B w w' ∧ (∀ p : Addr, p.block < B → w'.cell? p = w.cell? p ∧ w'.frozen? p = w.frozen? p) :=
    fun h1 h2 h3 => ⟨_, _, h1, h2, h3, fun p hp => ⟨h3.cell hp, h3.frozen hp⟩⟩
  have hsl : s.data.toList.length = s.size := by simp
  rcases h with ⟨rfl, rfl⟩ | ⟨g, off, cap, rfl, h2, h3, h4, h5, h6, h7⟩
  · have hown := World.ownsRow_nil w B 5 1
    obtain ⟨v', w', e1, e2, e3, e4⟩ := Lib.run_append_own_string (P := Tryd.prog) w B 49 9 ty 5 i0 Tryd.underlying49 Tryd.underlying9 hi hz0 hz1 hz2 _ 0 [] hown s (by unfold maxLen; omega) (by omega) hB
    refine fin e1 ?_ ((Below.refl _ _).grown e3 hB (fun k hk => by simp [Value.ownBlock] at hk))
    rw [List.nil_append] at *
    rcases e2.2 with ⟨hv, h0⟩ | ⟨g, cap, cur, hv, hg, hh, hn, hm, hcs, ht⟩
    · have : s.data.toList = [] := List.eq_nil_of_length_eq_zero (by rw [hsl]; omega)
      rw [this]; exact Or.inl ⟨hv, rfl⟩
    · have c1 := World.ownsRow.cellAt (show w'.ownsRow B 5 1 (.slice (some ⟨g, 0, none⟩) (0 + s.size) cap) (0 + s.size) (Lib.strCells s) by rw [← hv]; exact e2)
      refine Or.inr ⟨g, 0, cap, by rw [hsl, hv, Nat.zero_add], hg, (Array.getElem?_eq_some_iff.1 hh).1, by rw [hsl]; omega, hm, fun j hj => ?_, fun j hj => ?_⟩
      · rw [Nat.zero_add, cell_of_row w' g j cur 5 (0, 0) hh]
        refine ⟨by simp; omega, ?_⟩
        unfold World.frozen?
        simp only [hh]
        simp
      · rw [hsl] at hj
        rw [Nat.zero_add, c1 j (by omega)]
        simp [Lib.strCells, bcellv, hj]
  · by_cases hroom : xs.length + s.size ≤ cap
    · have hbl : (byteCells s).length = s.size := by simpa using byteCells_length s
      have hrun := run_append_room_src (P := Tryd.prog) w 49 9 ty 5 i0 Tryd.underlying49 hi g off xs.length cap (.string s) s.size (byteCells s) (by rw [hz1]; exact Src.ofString (w := w) Tryd.underlying9 s) hroom
        (fun j hj => by rw [hz1, Nat.mul_one, Nat.add_assoc]; exact (h6 _ (by omega)).1) (fun j hj => by rw [hz1, Nat.mul_one, Nat.add_assoc]; exact (h6 _ (by omega)).2)
      rw [hz1, Nat.mul_one] at hrun
      have hblk : ∀ k, k < w.heap.size → k ≠ g → (w.setCells g (off + xs.length) (byteCells s)).heap[k]? = w.heap[k]? := fun k hk hne => World.heap_setCells_other w g _ _ hk hne
      have hkb := World.keptBut_setCells g (may := fun _ => True) (byteCells s) (off + xs.length) w (fun _ _ => trivial)
      have hsz : (w.setCells g (off + xs.length) (byteCells s)).heap.size = w.heap.size := (setCells_size g _ _ _).1
      refine fin hrun (Or.inr ⟨g, off, cap, by rw [List.length_append, hsl], h2, by rw [hsz]; exact h3, by rw [List.length_append, hsl]; exact hroom, h5, fun j hj => ⟨World.isSome_setCells g _ _ _ _ (h6 j hj).1, (World.frozen?_setCells g _ _ _ _).trans (h6 j hj).2⟩, fun j hj => ?_⟩) ⟨World.os_setCells _ _ _ _, (setCells_size g _ _ _).2, World.output_setCells _ _ _ _, by rw [hsz]; exact Nat.le_refl _, fun k hk => hblk k (by omega) (by omega)⟩
      rw [List.length_append, hsl] at hj
      by_cases hjx : j < xs.length
      · rw [World.cell?_setCells_out g _ _ _ _ (fun _ _ => Or.inl (by show off + j < off + xs.length; omega)), List.getElem_append_left hjx]
        exact h7 j hjx
      · have := World.cell?_setCells_in g (byteCells s) (off + xs.length) w (fun q hq => by rw [Nat.add_assoc]; exact (h6 _ (by omega)).1) (j - xs.length) (by omega)
        rw [show off + xs.length + (j - xs.length) = off + j by omega] at this
        rw [this, List.getElem_append_right (by omega)]
        simp [byteCells, bcellv]
    · have hr := Lib.run_append_grow_string (P := Tryd.prog) w 49 9 ty 5 i0 (.int .u8 0) Tryd.underlying49 Tryd.underlying9 hi hz0 ⟨g, off, none⟩ xs.length cap (xs.map bcellv) (by rw [hz1, List.length_map, Nat.mul_one])
        (fun j u hu => by
          rw [List.getElem?_map] at hu
          obtain ⟨x, hx, rfl⟩ := Option.map_eq_some_iff.1 hu
          obtain ⟨hj, rfl⟩ := List.getElem?_eq_some_iff.1 hx
          rw [add_off]; exact h7 j hj) s (by omega) (by omega) (by rw [hz2]; exact growslice_fits (by omega) (by omega))
      obtain ⟨cp, hcp⟩ : ∃ cp, grownCap w (xs.length + s.size) cap 5 = cp := ⟨_, rfl⟩
      have hge := grownCap_ge w (xs.length + s.size) cap 5
      have hcm : grownCap w (xs.length + s.size) cap 5 ≤ maxLen := grownCap_le_maxLen w _ _ _ (by unfold maxLen; omega)
      rw [hcp] at hr hge hcm
      obtain ⟨cur, hcur⟩ : ∃ cur, (xs.map bcellv).toArray ++ (Lib.strCells s).toArray ++ Builtin.zeroCells (Value.int .u8 0).cells (cp - (xs.length + s.size)) = cur := ⟨_, rfl⟩
      rw [hcur] at hr
      have hcs : cur.size = cp := by
        have hz1 : (Value.int IntKind.u8 0).cells.size = 1 := rfl
        rw [← hcur]
        simp only [Array.size_append, List.size_toArray, size_zeroCells, hz1, Lib.strCells_length, List.length_map]
        omega
      have hl2 : (xs ++ s.data.toList).length = xs.length + s.size := by rw [List.length_append, hsl]
      refine fin hr (Or.inr ⟨w.heap.size, 0, cp, by rw [hl2], hB, by simp, by rw [hl2]; exact hge, hcm, fun j hj => ?_, fun j hj => ?_⟩) ((Below.refl B w).drew.alloc hB _)
      · rw [Nat.zero_add]
        rw [show w.heap.size = w.drew.heap.size from rfl, World.cell?_alloc_mark, World.frozen?_alloc_mark]
        refine ⟨by simp; omega, by simp⟩
      · rw [Nat.zero_add, show w.heap.size = w.drew.heap.size from rfl, World.cell?_alloc_mark, ← hcur]
        rw [hl2] at hj
        by_cases hjx : j < xs.length
        · rw [Array.getElem?_append_left (by simp; omega), Array.getElem?_append_left (by simp; omega), List.getElem_append_left hjx]
          simp [hjx]
        · rw [Array.getElem?_append_left (by simp [Lib.strCells_length]; omega), Array.getElem?_append_right (by simp; omega), List.getElem_append_right (by omega)]
          have hjs : j - xs.length < s.size := by omega
          simp [Lib.strCells, bcellv, hjs]

/-- The operation, for the walk. -/
theorem wpList_ownB {w : World} {ops : Array Oper} {rest : List Oper} {o : Oper} {a : Act} {Q : Exit → Act → World → Prop} (hgd : o.guard = none) (sl x : Operand)
    (ho : o.op = .call { callee := .builtin .append, args := #[sl, x], argTypes := #[49, 9] })
    (B : Nat) (v : Value) (xs : List UInt8) (hs : a.eval sl = v) (hown : OwnB w B v xs) (s : ByteArray) (hx : a.eval x = .string s) (hB : B ≤ w.heap.size) (hsz : xs.length + s.size ≤ 100000000)
    (h : ∀ v' w', OwnB w' B v' (xs ++ s.data.toList) → Below B w w' → wpList Tryd.prog ops Q rest (a.put o.dst v') w') : wpList Tryd.prog ops Q (o :: rest) a w := by
  refine wpList_plain hgd fun K hK => ?_
  obtain ⟨v', w', hr, h2, h3, -⟩ := hown.append hB s hsz o.type
  unfold Oper.wp execOp
  simp only [ho, resolve, invoke, builtin, Sem.run_bind, Sem.run_pure, Result.andThen_ok, List.map_toArray, List.map_cons, List.map_nil, hs, hx, hr]
  exact hK _ _ (h v' w' h2 h3)
/-- It made into a text. -/
theorem OwnB.whole {w : World} {B : Nat} {v : Value} {xs : List UInt8} (h : OwnB w B v xs) : (convert 49 9 v).run Tryd.prog w = .ok (.string (tx xs)) w := by
  rcases h with ⟨rfl, rfl⟩ | ⟨g, off, cap, rfl, h2, h3, h4, h5, h6, h7⟩
  · rfl
  · have := run_convert_bytes_back (P := Tryd.prog) w 49 9 5 ⟨g, off, none⟩ cap xs Tryd.underlying49 Tryd.underlying5 Tryd.underlying9 fun j hj => by
      rw [add_off, h7 j hj]; rfl
    simpa [tx] using this
/-- A text made into one. -/
theorem ownB_of_text (B : Nat) (s : ByteArray) (w : World) (hB : B ≤ w.heap.size) (hs : s.size ≤ 100000000) : ∃ v w', (convert 9 49 (.string s)).run Tryd.prog w = .ok v w' ∧ OwnB w' B v s.data.toList ∧ Below w.heap.size w w' := by
  have hsl : s.data.toList.length = s.size := by simp
  have hge := grownCap_ge w s.size 0 5
  have hcm : grownCap w s.size 0 5 ≤ maxLen := grownCap_le_maxLen w _ _ _ (by unfold maxLen; omega)
  refine ⟨_, _, run_bytes_of_string w 9 49 5 s Tryd.underlying9 Tryd.underlying49 Tryd.underlying5, Or.inr ⟨w.heap.size, 0, _, by rw [hsl], hB, by simp, by rw [hsl]; exact hge, hcm, fun j hj => ?_, fun j hj => ?_⟩, ((Below.refl _ _).drew).alloc (by simp) _⟩
  · have hrow : (bytesRow s (grownCap w s.size 0 5)).size = grownCap w s.size 0 5 := by
      have e : s.data.size = s.size := rfl
      unfold bytesRow; simp [Array.size_append]; omega
    rw [Nat.zero_add]
    rw [show w.heap.size = w.drew.heap.size from rfl, World.cell?_alloc_mark, World.frozen?_alloc_mark]
    refine ⟨?_, by simp; omega⟩
    rw [Array.getElem?_eq_getElem (by rw [hrow]; exact hj)]; rfl
  · have hj' : j < s.data.size := by simpa using hj
    rw [Nat.zero_add, show w.heap.size = w.drew.heap.size from rfl, World.cell?_alloc_mark, bytesRow_at _ _ _ hj']
    simp [bcellv]
end Go.Proofs.YtkomfenjeoaelaaDoor
