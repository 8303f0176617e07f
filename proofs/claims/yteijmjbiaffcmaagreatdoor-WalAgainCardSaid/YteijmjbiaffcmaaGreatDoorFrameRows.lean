/- Slices of texts and of numbers that may be read; slices of bytes of the call's own that begin anywhere in their row: appended to, cut at the head, made into texts. -/
import Derived.Test.YteijmjbiaffcmaaGreatDoorVintArgs
import Derived.Test.YteijmjbiaffcmaaGreatDoorSumFns
import Derived.Deep.AppendSrc
import Derived.Deep.Upon
import Derived.Deep.MidRow
import Derived.Lib.AppendStr
import Derived.OwnWalk
set_option maxRecDepth 20000
namespace Go.Proofs.YteijmjbiaffcmaaGreatDoor
open Go.RowKit Go.Proofs.YteijmjbiaffcmaaGreatDoor.Vi

theorem bel_next {w a b : World} (h : Below w.heap.size w a) (k : Below a.heap.size a b) : Below w.heap.size w b := h.trans (k.mono h.size)
theorem bel_new {w a : World} (h : Below w.heap.size w a) (o : Obj) : Below w.heap.size w (a.alloc o) := h.alloc h.size o
theorem add_off (b off j : Nat) : (⟨b, off, none⟩ : Addr).add j = ⟨b, off + j, none⟩ := by unfold Addr.add; split <;> simp_all

/-- v is a slice of the texts l. -/
def Ss (w : World) (v : Value) (l : List ByteArray) : Prop := ∃ a cap, v = .slice a l.length cap ∧ l.length ≤ cap ∧ cap ≤ maxLen ∧ (l = [] ∨ ∃ b off, a = some ⟨b, off, none⟩ ∧ b < w.heap.size ∧ ∀ j (h : j < l.length), w.cell? ⟨b, off + j, none⟩ = some (.string l[j]))
theorem Ss.slice {w : World} {v : Value} {l : List ByteArray} (h : Ss w v l) : ∃ a cap, v = .slice a l.length cap := by obtain ⟨a, cap, h, _⟩ := h; exact ⟨a, cap, h⟩
theorem Ss.below {w w' : World} {v : Value} {l : List ByteArray} (h : Ss w v l) (k : Below w.heap.size w w') : Ss w' v l := by
  obtain ⟨a, cap, h1, h2, h3, h4⟩ := h
  refine ⟨a, cap, h1, h2, h3, ?_⟩
  rcases h4 with h4 | ⟨b, off, h4, h5, h6⟩
  · exact Or.inl h4
  · exact Or.inr ⟨b, off, h4, Nat.lt_of_lt_of_le h5 k.size, fun j hj => (k.cell (p := ⟨b, off + j, none⟩) h5).trans (h6 j hj)⟩
theorem Ss.cell {w : World} {a : Option Addr} {n cap : Nat} {l : List ByteArray} (h : Ss w (.slice a n cap) l) (h0 : 0 < l.length) : ∃ b off, a = some ⟨b, off, none⟩ ∧ n = l.length ∧ ∀ j (h : j < l.length), w.cell? ⟨b, off + j, none⟩ = some (.string l[j]) := by
  obtain ⟨a', cap', h1, h2, h3, h4⟩ := h
  injection h1 with e1 e2 e3
  subst e1 e2 e3
  rcases h4 with rfl | ⟨b, off, h4, h5, h6⟩
  · simp at h0
  · exact ⟨b, off, h4, rfl, h6⟩
theorem ss_of_args {w : World} {a : Option Addr} {len cap : Nat} (h : ArgStrs w a len cap) : len = 0 ∨ ∃ l : List ByteArray, l.length = len ∧ Ss w (.slice a len cap) l ∧ ∀ s ∈ l, s.size ≤ maxLen := by
  rcases h with rfl | ⟨b, off, l, rfl, hl, hlc, hm, hc, hw⟩
  · exact Or.inl rfl
  · subst hl
    by_cases h0 : l.length = 0
    · exact Or.inl h0
    · exact Or.inr ⟨l, rfl, ⟨_, _, rfl, hlc, hm, Or.inr ⟨b, off, rfl, World.block_lt_of_cell? w _ (hc 0 (by omega)), hc⟩⟩, hw⟩

theorem infoS : (Tryz.prog.info? 9).map (fun i => (i.zero, i.size, i.bytes)) = some (some (.string ⟨#[]⟩), 1, 16) := by kernel_rfl
theorem infoI : (Tryz.prog.info? 3).map (fun i => (i.zero, i.size, i.bytes)) = some (some (.int .i64 0), 1, 8) := by kernel_rfl
/-- v is a slice that the call has made above B, of the texts xs. -/
def SRow (w : World) (B : Nat) (v : Value) (xs : List ByteArray) : Prop := w.ownsRow B 9 1 v xs.length (xs.map Value.string)
theorem SRow.slice {w : World} {B : Nat} {v : Value} {xs : List ByteArray} (h : SRow w B v xs) : ∃ a c, v = .slice a xs.length c := ownsRow_slice h
theorem SRow.nil (w : World) (B : Nat) : SRow w B (.slice none 0 0) [] := World.ownsRow_nil _ _ _ _
theorem SRow.ss {w : World} {B : Nat} {v : Value} {xs : List ByteArray} (h : SRow w B v xs) : Ss w v xs := by
  have h0 := h
  rcases h.2 with ⟨hv, h0⟩ | ⟨g, cap, cur, hv, hg, hh, hn, hm, hs, ht⟩
  · obtain rfl := List.eq_nil_of_length_eq_zero h0
    exact ⟨none, 0, hv, Nat.le_refl _, Nat.zero_le _, Or.inl rfl⟩
  · refine ⟨_, _, hv, hn, hm, ?_⟩
    subst hv
    have e1 := World.ownsRow.cellAt (show w.ownsRow B 9 1 _ xs.length (xs.map Value.string) from h0)
    refine Or.inr ⟨g, 0, rfl, (Array.getElem?_eq_some_iff.1 hh).1, fun j hj => ?_⟩
    rw [Nat.zero_add, e1 j (by omega)]; simp [hj]
theorem owns_later {w w' : World} {B size n : Nat} {e : TypeId} {v : Value} {xs : List Value} (h : w.ownsRow B e size v n xs) (k : Below w.heap.size w w') : w'.ownsRow B e size v n xs := by
  refine ⟨h.1, ?_⟩
  rcases h.2 with h1 | ⟨g, cap, cur, hv, hg, hh, hr⟩
  · exact Or.inl h1
  · exact Or.inr ⟨g, cap, cur, hv, hg, by rw [k.block g (Array.getElem?_eq_some_iff.1 hh).1]; exact hh, hr⟩
theorem SRow.later {w w' : World} {B : Nat} {v : Value} {xs : List ByteArray} (h : SRow w B v xs) (k : Below w.heap.size w w') : SRow w' B v xs := owns_later h k
/-- The first k of them, and those behind. -/
theorem SRow.head {w : World} {B : Nat} {a : Option Addr} {n c : Nat} {xs : List ByteArray} (h : SRow w B (.slice a n c) xs) (k : Nat) (hk : k ≤ xs.length) : k ≤ c ∧ Ss w (sliced a 0 k c 1) (xs.take k) := by
  obtain ⟨a', cap, h1, h2, h3, h4⟩ := h.ss
  injection h1 with e1 e2 e3
  subst e1 e2 e3
  have hl : (xs.take k).length = k := by rw [List.length_take]; omega
  refine ⟨by omega, ?_⟩
  unfold sliced
  refine ⟨_, _, by rw [hl]; rfl, by rw [hl]; omega, by omega, ?_⟩
  rcases h4 with rfl | ⟨b, off, rfl, h5, h6⟩
  · exact Or.inl (by simp)
  · refine Or.inr ⟨b, off, ?_, h5, fun j hj => ?_⟩
    · split
      · rfl
      · simp [add_off]
    · rw [List.getElem_take]; exact h6 j (by omega)
theorem SRow.tail {w : World} {B : Nat} {a : Option Addr} {n c : Nat} {xs : List ByteArray} (h : SRow w B (.slice a n c) xs) (k : Nat) (hk : k ≤ xs.length) : n = xs.length ∧ Ss w (sliced a k n c 1) (xs.drop k) := by
  obtain ⟨a', cap, h1, h2, h3, h4⟩ := h.ss
  injection h1 with e1 e2 e3
  subst e1 e2 e3
  have hl : (xs.drop k).length = xs.length - k := List.length_drop
  refine ⟨rfl, ?_⟩
  unfold sliced
  refine ⟨_, _, by rw [hl], by rw [hl]; omega, by omega, ?_⟩
  by_cases e : k = xs.length
  · exact Or.inl (by rw [e]; simp)
  · rcases h4 with rfl | ⟨b, off, rfl, h5, h6⟩
    · exact Or.inl (by simp)
    · refine Or.inr ⟨b, off + k, ?_, h5, fun j hj => ?_⟩
      · rw [if_neg (by omega)]; simp [add_off]
      · rw [List.getElem_drop, Nat.add_assoc]; exact h6 (k + j) (by omega)

/-- v is a slice that the call has made above B, of the numbers xs. -/
def icell (n : Int) : Value := .int .i64 n
def IRow (w : World) (B : Nat) (v : Value) (xs : List Int) : Prop := w.ownsRow B 3 1 v xs.length (xs.map icell)
theorem IRow.slice {w : World} {B : Nat} {v : Value} {xs : List Int} (h : IRow w B v xs) : ∃ a c, v = .slice a xs.length c := ownsRow_slice h
theorem IRow.nil (w : World) (B : Nat) : IRow w B (.slice none 0 0) [] := World.ownsRow_nil _ _ _ _
theorem IRow.later {w w' : World} {B : Nat} {v : Value} {xs : List Int} (h : IRow w B v xs) (k : Below w.heap.size w w') : IRow w' B v xs := owns_later h k
theorem IRow.cell {w : World} {B : Nat} {a : Option Addr} {n c : Nat} {xs : List Int} (h : IRow w B (.slice a n c) xs) (h0 : 0 < xs.length) : ∃ g, a = some ⟨g, 0, none⟩ ∧ n = xs.length ∧ g < w.heap.size ∧ ∀ j (hj : j < xs.length), w.cell? ⟨g, j, none⟩ = some (.int .i64 xs[j]) := by
  have h1 := h
  rcases h.2 with ⟨hv, h2⟩ | ⟨g, cap, cur, hv, hg, hh, hn, hm, hs, ht⟩
  · omega
  · injection hv with e1 e2 e3
    subst e1 e2 e3
    have e1 := World.ownsRow.cellAt (show w.ownsRow B 3 1 _ xs.length (xs.map icell) from h1)
    refine ⟨g, rfl, rfl, (Array.getElem?_eq_some_iff.1 hh).1, fun j hj => ?_⟩
    rw [e1 j (by omega)]; simp [hj, icell]

/-- v is a slice of the bytes xs; its row lies above B, may be written as far as its capacity goes, and v may begin anywhere in it. -/
def OwnB (w : World) (B : Nat) (v : Value) (xs : List UInt8) : Prop := (v = .slice none 0 0 ∧ xs = []) ∨ ∃ g off cap, v = .slice (some ⟨g, off, none⟩) xs.length cap ∧ B ≤ g ∧ g < w.heap.size ∧ xs.length ≤ cap ∧ cap ≤ maxLen ∧
  (∀ j, j < cap → (w.cell? ⟨g, off + j, none⟩).isSome = true ∧ w.frozen? ⟨g, off + j, none⟩ = false) ∧ ∀ j (h : j < xs.length), w.cell? ⟨g, off + j, none⟩ = some (bcellv xs[j])
theorem OwnB.nil (w : World) (B : Nat) : OwnB w B (.slice none 0 0) [] := Or.inl ⟨rfl, rfl⟩
theorem OwnB.slice {w : World} {B : Nat} {v : Value} {xs : List UInt8} (h : OwnB w B v xs) : ∃ a c, v = .slice a xs.length c := by
  rcases h with ⟨rfl, rfl⟩ | ⟨g, off, cap, h, _⟩
  · exact ⟨_, _, rfl⟩
  · exact ⟨_, _, h⟩
/-- Nothing of its row, nor below a number above it, has turned. -/
theorem OwnB.under {w w' : World} {B C : Nat} {v : Value} {xs : List UInt8} (h : OwnB w B v xs) (k : Below C w w') (hC : w.heap.size ≤ C) : OwnB w' B v xs := by
  rcases h with h | ⟨g, off, cap, h1, h2, h3, h4, h5, h6, h7⟩
  · exact Or.inl h
  · have hg : g < C := by omega
    exact Or.inr ⟨g, off, cap, h1, h2, Nat.lt_of_lt_of_le h3 k.size, h4, h5, fun j hj => ⟨by rw [k.cell (p := ⟨g, off + j, none⟩) hg]; exact (h6 j hj).1, by rw [k.frozen (p := ⟨g, off + j, none⟩) hg]; exact (h6 j hj).2⟩,
      fun j hj => (k.cell (p := ⟨g, off + j, none⟩) hg).trans (h7 j hj)⟩
/-- A cell below is stored. -/
theorem OwnB.stored {w : World} {B : Nat} {v : Value} {xs : List UInt8} (h : OwnB w B v xs) (p : Addr) (hp : p.block < B) (u : Value) : OwnB (w.setCell p u) B v xs := by
  rcases h with h | ⟨g, off, cap, h1, h2, h3, h4, h5, h6, h7⟩
  · exact Or.inl h
  · have hne : (w.setCell p u).heap[g]? = w.heap[g]? := Below.heap_setCell w p u g (by omega)
    have hc : ∀ j, (w.setCell p u).cell? ⟨g, off + j, none⟩ = w.cell? ⟨g, off + j, none⟩ := fun j => World.cell?_of_block (a := ⟨g, off + j, none⟩) hne
    have hf : ∀ j, (w.setCell p u).frozen? ⟨g, off + j, none⟩ = w.frozen? ⟨g, off + j, none⟩ := fun j => World.frozen?_of_block (a := ⟨g, off + j, none⟩) hne
    exact Or.inr ⟨g, off, cap, h1, h2, by simpa using h3, h4, h5, fun j hj => by rw [hc, hf]; exact h6 j hj, fun j hj => by rw [hc]; exact h7 j hj⟩
/-- The first k taken off. -/
theorem OwnB.tail {w : World} {B : Nat} {a : Option Addr} {n c : Nat} {xs : List UInt8} (h : OwnB w B (.slice a n c) xs) (k : Nat) (hk : k ≤ xs.length) (k0 : 0 < k) : n = xs.length ∧ OwnB w B (sliced a k n c 1) (xs.drop k) := by
  rcases h with ⟨h, rfl⟩ | ⟨g, off, cap, h1, h2, h3, h4, h5, h6, h7⟩
  · simp at hk; omega
  · injection h1 with e1 e2 e3
    subst e1 e2 e3
    refine ⟨rfl, ?_⟩
    unfold sliced
    by_cases e : c = k
    · rw [if_pos e]
      refine Or.inr ⟨g, off, c - k, by rw [List.length_drop], h2, h3, by rw [List.length_drop]; omega, by omega, fun j hj => by omega, fun j hj => by rw [List.length_drop] at hj; omega⟩
    · rw [if_neg e]
      refine Or.inr ⟨g, off + k, c - k, by rw [List.length_drop]; simp [add_off], h2, h3, by rw [List.length_drop]; omega, by omega, fun j hj => by rw [Nat.add_assoc]; exact h6 (k + j) (by omega), fun j hj => ?_⟩
      rw [List.length_drop] at hj
      rw [List.getElem_drop, Nat.add_assoc]; exact h7 (k + j) (by omega)
/-- Bytes of it made into a text. -/
theorem OwnB.text {w w' : World} {B : Nat} {a : Option Addr} {n c : Nat} {xs : List UInt8} (h : OwnB w B (.slice a n c) xs) (k : Below w.heap.size w w') (l r m : Nat) (hlr : l ≤ r) (hr : r ≤ xs.length) (hrm : r ≤ m) :
    (convert 57 9 (sliced a l r m 1)).run Tryz.prog w' = .ok (.string (tx ((xs.drop l).take (r - l)))) w' := by
  have hnil : ∀ (a : Option Addr) (c : Nat), (convert 57 9 (.slice a 0 c)).run Tryz.prog w' = .ok (.string (tx [])) w' := fun a c => by
    cases a with
    | none => rfl
    | some y => exact run_convert_bytes_back (P := Tryz.prog) w' 57 9 5 y c [] Tryz.underlying57 Tryz.underlying5 Tryz.underlying9 fun j hj => by simp at hj
  by_cases e0 : r = l
  · have : (xs.drop l).take (r - l) = [] := by rw [e0, Nat.sub_self, List.take_zero]
    rw [this]
    unfold sliced
    rw [e0, Nat.sub_self]
    exact hnil _ _
  · rcases h with ⟨h, rfl⟩ | ⟨g, off, cap, h1, h2, h3, h4, h5, h6, h7⟩
    · simp at hr; omega
    · injection h1 with e1 e2 e3
      subst e1 e2 e3
      unfold sliced
      rw [if_neg (by omega)]
      have hl : ((xs.drop l).take (r - l)).length = r - l := by rw [List.length_take, List.length_drop]; omega
      have := run_convert_bytes_back (P := Tryz.prog) w' 57 9 5 ⟨g, off + l, none⟩ (m - l) ((xs.drop l).take (r - l)) Tryz.underlying57 Tryz.underlying5 Tryz.underlying9 fun j hj => by
        rw [hl] at hj
        rw [add_off, k.cell (p := ⟨g, off + l + j, none⟩) h3, Nat.add_assoc, h7 (l + j) (by omega)]
        simp [bcellv]
      rw [hl] at this
      simpa [add_off, tx] using this

theorem setCells_size (g : Nat) : ∀ (vs : List Value) (o : Nat) (w : World), (w.setCells g o vs).heap.size = w.heap.size ∧ (w.setCells g o vs).tape = w.tape
  | [], _, _ => ⟨rfl, rfl⟩
  | v :: r, o, w => by
    obtain ⟨h1, h2⟩ := setCells_size g r (o + 1) (w.setCell ⟨g, o, none⟩ v)
    exact ⟨h1.trans (by simp), h2.trans (by rfl)⟩
/-- A text's bytes appended to it. -/
theorem OwnB.append {w : World} {B : Nat} {v : Value} {xs : List UInt8} (h : OwnB w B v xs) (hB : B ≤ w.heap.size) (s : ByteArray) (hs : xs.length + s.size ≤ 100000000) (ty : TypeId) :
    ∃ v' w', (Builtin.append_ #[57, 9] ty #[v, .string s]).run Tryz.prog w = .ok v' w' ∧ OwnB w' B v' (xs ++ s.data.toList) ∧ Below B w w' ∧ (∀ p : Addr, p.block < B → w'.cell? p = w.cell? p ∧ w'.frozen? p = w.frozen? p) := by
  obtain ⟨i0, hi, hz0, hz1, hz2⟩ := info_parts infoB
  have fin : ∀ {v' w'}, (Builtin.append_ #[57, 9] ty #[v, .string s]).run Tryz.prog w = .ok v' w' → OwnB w' B v' (xs ++ s.data.toList) → Below B w w' →
      ∃ v' w', (Builtin.append_ #[57, 9] ty #[v, .string s]).run Tryz.prog w = .ok v' w' ∧ OwnB w' B v' (xs ++ s.data.toList) ∧ Below B w w' ∧ (∀ p : Addr, p.block < B → w'.cell? p = w.cell? p ∧ w'.frozen? p = w.frozen? p) :=
    fun h1 h2 h3 => ⟨_, _, h1, h2, h3, fun p hp => ⟨h3.cell hp, h3.frozen hp⟩⟩
  have hsl : s.data.toList.length = s.size := by simp
  rcases h with ⟨rfl, rfl⟩ | ⟨g, off, cap, rfl, h2, h3, h4, h5, h6, h7⟩
  · have hown := World.ownsRow_nil w B 5 1
    obtain ⟨v', w', e1, e2, e3, e4⟩ := Lib.run_append_own_string (P := Tryz.prog) w B 57 9 ty 5 i0 Tryz.underlying57 Tryz.underlying9 hi hz0 hz1 hz2 _ 0 [] hown s (by unfold maxLen; omega) (by omega) hB
    refine fin e1 ?_ ((Below.refl _ _).grown e3 hB (fun k hk => by simp [Value.ownBlock] at hk))
    rw [List.nil_append] at *
    rcases e2.2 with ⟨hv, h0⟩ | ⟨g, cap, cur, hv, hg, hh, hn, hm, hcs, ht⟩
    · have : s.data.toList = [] := List.eq_nil_of_length_eq_zero (by rw [hsl]; omega)
      rw [this]; exact Or.inl ⟨hv, rfl⟩
    · have c1 := World.ownsRow.cellAt (show w'.ownsRow B 5 1 (.slice (some ⟨g, 0, none⟩) (0 + s.size) cap) (0 + s.size) (Lib.strCells s) by rw [← hv]; exact e2)
      refine Or.inr ⟨g, 0, cap, by rw [hsl, hv, Nat.zero_add], hg, (Array.getElem?_eq_some_iff.1 hh).1, by rw [hsl]; omega, hm, fun j hj => ?_, fun j hj => ?_⟩
      · rw [Nat.zero_add, cell_of_row w' g j cur 5 (0, 0) hh]
        refine ⟨by simp; omega, ?_⟩
        unfold World.frozen?
        simp only [hh]
        simp
      · rw [hsl] at hj
        rw [Nat.zero_add, c1 j (by omega)]
        simp [Lib.strCells, bcellv, hj]
  · by_cases hroom : xs.length + s.size ≤ cap
    · have hbl : (byteCells s).length = s.size := by simpa using byteCells_length s
      have hrun := run_append_room_src (P := Tryz.prog) w 57 9 ty 5 i0 Tryz.underlying57 hi g off xs.length cap (.string s) s.size (byteCells s) (by rw [hz1]; exact Src.ofString (w := w) Tryz.underlying9 s) hroom
        (fun j hj => by rw [hz1, Nat.mul_one, Nat.add_assoc]; exact (h6 _ (by omega)).1) (fun j hj => by rw [hz1, Nat.mul_one, Nat.add_assoc]; exact (h6 _ (by omega)).2)
      rw [hz1, Nat.mul_one] at hrun
      have hblk : ∀ k, k < w.heap.size → k ≠ g → (w.setCells g (off + xs.length) (byteCells s)).heap[k]? = w.heap[k]? := fun k hk hne => World.heap_setCells_other w g _ _ hk hne
      have hkb := World.keptBut_setCells g (may := fun _ => True) (byteCells s) (off + xs.length) w (fun _ _ => trivial)
      have hsz : (w.setCells g (off + xs.length) (byteCells s)).heap.size = w.heap.size := (setCells_size g _ _ _).1
      refine fin hrun (Or.inr ⟨g, off, cap, by rw [List.length_append, hsl], h2, by rw [hsz]; exact h3, by rw [List.length_append, hsl]; exact hroom, h5, fun j hj => ⟨World.isSome_setCells g _ _ _ _ (h6 j hj).1, (World.frozen?_setCells g _ _ _ _).trans (h6 j hj).2⟩, fun j hj => ?_⟩) ⟨World.os_setCells _ _ _ _, (setCells_size g _ _ _).2, World.output_setCells _ _ _ _, by rw [hsz]; exact Nat.le_refl _, fun k hk => hblk k (by omega) (by omega)⟩
      rw [List.length_append, hsl] at hj
      by_cases hjx : j < xs.length
      · rw [World.cell?_setCells_out g _ _ _ _ (fun _ _ => Or.inl (by show off + j < off + xs.length; omega)), List.getElem_append_left hjx]
        exact h7 j hjx
      · have := World.cell?_setCells_in g (byteCells s) (off + xs.length) w (fun q hq => by rw [Nat.add_assoc]; exact (h6 _ (by omega)).1) (j - xs.length) (by omega)
        rw [show off + xs.length + (j - xs.length) = off + j by omega] at this
        rw [this, List.getElem_append_right (by omega)]
        simp [byteCells, bcellv]
    · have hr := Lib.run_append_grow_string (P := Tryz.prog) w 57 9 ty 5 i0 (.int .u8 0) Tryz.underlying57 Tryz.underlying9 hi hz0 ⟨g, off, none⟩ xs.length cap (xs.map bcellv) (by rw [hz1, List.length_map, Nat.mul_one])
        (fun j u hu => by
          rw [List.getElem?_map] at hu
          obtain ⟨x, hx, rfl⟩ := Option.map_eq_some_iff.1 hu
          obtain ⟨hj, rfl⟩ := List.getElem?_eq_some_iff.1 hx
          rw [add_off]; exact h7 j hj) s (by omega) (by omega) (by rw [hz2]; exact growslice_fits (by omega) (by omega))
      obtain ⟨cp, hcp⟩ : ∃ cp, grownCap w (xs.length + s.size) cap 5 = cp := ⟨_, rfl⟩
      have hge := grownCap_ge w (xs.length + s.size) cap 5
      have hcm : grownCap w (xs.length + s.size) cap 5 ≤ maxLen := grownCap_le_maxLen w _ _ _ (by unfold maxLen; omega)
      rw [hcp] at hr hge hcm
      obtain ⟨cur, hcur⟩ : ∃ cur, (xs.map bcellv).toArray ++ (Lib.strCells s).toArray ++ Builtin.zeroCells (Value.int .u8 0).cells (cp - (xs.length + s.size)) = cur := ⟨_, rfl⟩
      rw [hcur] at hr
      have hcs : cur.size = cp := by
        have hz1 : (Value.int IntKind.u8 0).cells.size = 1 := rfl
        rw [← hcur]
        simp only [Array.size_append, List.size_toArray, size_zeroCells, hz1, Lib.strCells_length, List.length_map]
        omega
      have hl2 : (xs ++ s.data.toList).length = xs.length + s.size := by rw [List.length_append, hsl]
      refine fin hr (Or.inr ⟨w.heap.size, 0, cp, by rw [hl2], hB, by simp, by rw [hl2]; exact hge, hcm, fun j hj => ?_, fun j hj => ?_⟩) ((Below.refl B w).drew.alloc hB _)
      · rw [Nat.zero_add]
        rw [show w.heap.size = w.drew.heap.size from rfl, World.cell?_alloc_mark, World.frozen?_alloc_mark]
        refine ⟨by simp; omega, by simp⟩
      · rw [Nat.zero_add, show w.heap.size = w.drew.heap.size from rfl, World.cell?_alloc_mark, ← hcur]
        rw [hl2] at hj
        by_cases hjx : j < xs.length
        · rw [Array.getElem?_append_left (by simp; omega), Array.getElem?_append_left (by simp; omega), List.getElem_append_left hjx]
          simp [hjx]
        · rw [Array.getElem?_append_left (by simp [Lib.strCells_length]; omega), Array.getElem?_append_right (by simp; omega), List.getElem_append_right (by omega)]
          have hjs : j - xs.length < s.size := by omega
          simp [Lib.strCells, bcellv, hjs]

/-- The operation, for the walk. -/
theorem wpList_ownB {w : World} {ops : Array Oper} {rest : List Oper} {o : Oper} {a : Act} {Q : Exit → Act → World → Prop} (hgd : o.guard = none) (sl x : Operand)
    (ho : o.op = .call { callee := .builtin .append, args := #[sl, x], argTypes := #[57, 9] })
    (B : Nat) (v : Value) (xs : List UInt8) (hs : a.eval sl = v) (hown : OwnB w B v xs) (s : ByteArray) (hx : a.eval x = .string s) (hB : B ≤ w.heap.size) (hsz : xs.length + s.size ≤ 100000000)
    (h : ∀ v' w', OwnB w' B v' (xs ++ s.data.toList) → Below B w w' → wpList Tryz.prog ops Q rest (a.put o.dst v') w') : wpList Tryz.prog ops Q (o :: rest) a w := by
  refine wpList_plain hgd fun K hK => ?_
  obtain ⟨v', w', hr, h2, h3, -⟩ := hown.append hB s hsz o.type
  unfold Oper.wp execOp
  simp only [ho, resolve, invoke, builtin, Sem.run_bind, Sem.run_pure, Result.andThen_ok, List.map_toArray, List.map_cons, List.map_nil, hs, hx, hr]
  exact hK _ _ (h v' w' h2 h3)
end Go.Proofs.YteijmjbiaffcmaaGreatDoor
