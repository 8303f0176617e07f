/- Bytes of the call's own beside a block that stands: appending to them leaves it alone. -/
import Derived.Test.YtkomfenjeoaelaaDoorSampleG
set_option maxRecDepth 20000
namespace Go.Proofs.YtkomfenjeoaelaaDoor
open Go.RowKit Go.Proofs.YtkomfenjeoaelaaDoor.Vi Go.Proofs.YtkomfenjeoaelaaDoor.Mk

/-- Bytes of the call's own, in another block than those of P. -/
def OwnX (w : World) (B : Nat) (P : Nat → Prop) (v : Value) (xs : List UInt8) : Prop := OwnB w B v xs ∧ ∃ g off n c, v = .slice (some ⟨g, off, none⟩) n c ∧ ¬ P g
theorem OwnX.append {w : World} {B : Nat} {P : Nat → Prop} {v : Value} {xs : List UInt8} (h : OwnX w B P v xs) (hB : B ≤ w.heap.size) (hP : ∀ k, P k → k < w.heap.size) (s : ByteArray) (hs : xs.length + s.size ≤ 100000000) (ty : TypeId) :
    ∃ v' w', (Builtin.append_ #[49, 9] ty #[v, .string s]).run Tryd.prog w = .ok v' w' ∧ OwnX w' B P v' (xs ++ s.data.toList) ∧ Below B w w' ∧ (∀ k, k < w.heap.size → v.ownBlock ≠ some k → w'.heap[k]? = w.heap[k]?) := by
  obtain ⟨i0, hi, hz0, hz1, hz2⟩ := info_parts infoB
  have fin : ∀ {v' w'}, (Builtin.append_ #[49, 9] ty #[v, .string s]).run Tryd.prog w = .ok v' w' → (∃ g off n c, v' = .slice (some ⟨g, off, none⟩) n c ∧ ¬ P g) → (∀ k, k < w.heap.size → v.ownBlock ≠ some k → w'.heap[k]? = w.heap[k]?) → OwnB w' B v' (xs ++ s.data.toList) → Below B w w' →
      ∃ v' w', (Builtin.append_ #[49, 9] ty #[v, .string s]).run Tryd.prog w = .ok v' w' ∧ OwnX w' B P v' (xs ++ s.data.toList) ∧ Below B w w' ∧ (∀ k, k < w.heap.size → v.ownBlock ≠ some k → w'.heap[k]? = w.heap[k]?) :=
    fun h1 h4 h5 h2 h3 => ⟨_, _, h1, ⟨h2, h4⟩, h3, h5⟩
  have hsl : s.data.toList.length = s.size := by simp
  obtain ⟨h, g', off', n', c', hv, hgP⟩ := h
  rcases h with ⟨rfl, rfl⟩ | ⟨g, off, cap, rfl, h2, h3, h4, h5, h6, h7⟩
  · cases hv
  · obtain rfl : g = g' := by injection hv with e1; injection e1 with e1; injection e1
    by_cases hroom : xs.length + s.size ≤ cap
    · have hbl : (byteCells s).length = s.size := by simpa using byteCells_length s
      have hrun := run_append_room_src (P := Tryd.prog) w 49 9 ty 5 i0 Tryd.underlying49 hi g off xs.length cap (.string s) s.size (byteCells s) (by rw [hz1]; exact Src.ofString (w := w) Tryd.underlying9 s) hroom
        (fun j hj => by rw [hz1, Nat.mul_one, Nat.add_assoc]; exact (h6 _ (by omega)).1) (fun j hj => by rw [hz1, Nat.mul_one, Nat.add_assoc]; exact (h6 _ (by omega)).2)
      rw [hz1, Nat.mul_one] at hrun
      have hblk : ∀ k, k < w.heap.size → k ≠ g → (w.setCells g (off + xs.length) (byteCells s)).heap[k]? = w.heap[k]? := fun k hk hne => World.heap_setCells_other w g _ _ hk hne
      have hkb := World.keptBut_setCells g (may := fun _ => True) (byteCells s) (off + xs.length) w (fun _ _ => trivial)
      have hsz : (w.setCells g (off + xs.length) (byteCells s)).heap.size = w.heap.size := (setCells_size g _ _ _).1
      refine fin hrun ⟨g, off, _, _, rfl, hgP⟩ (fun k hk hne => hblk k hk (fun e => hne (by rw [e]; rfl))) (Or.inr ⟨g, off, cap, by rw [List.length_append, hsl], h2, by rw [hsz]; exact h3, by rw [List.length_append, hsl]; exact hroom, h5, fun j hj => ⟨World.isSome_setCells g _ _ _ _ (h6 j hj).1, (World.frozen?_setCells g _ _ _ _).trans (h6 j hj).2⟩, fun j hj => ?_⟩) ⟨World.os_setCells _ _ _ _, (setCells_size g _ _ _).2, World.output_setCells _ _ _ _, by rw [hsz]; exact Nat.le_refl _, fun k hk => hblk k (by omega) (by omega)⟩
      rw [List.length_append, hsl] at hj
      by_cases hjx : j < xs.length
      · rw [World.cell?_setCells_out g _ _ _ _ (fun _ _ => Or.inl (by show off + j < off + xs.length; omega)), List.getElem_append_left hjx]
        exact h7 j hjx
      · have := World.cell?_setCells_in g (byteCells s) (off + xs.length) w (fun q hq => by rw [Nat.add_assoc]; exact (h6 _ (by omega)).1) (j - xs.length) (by omega)
        rw [show off + xs.length + (j - xs.length) = off + j by omega] at this
        rw [this, List.getElem_append_right (by omega)]
        simp [byteCells, bcellv]
    · have hr := Lib.run_append_grow_string (P := Tryd.prog) w 49 9 ty 5 i0 (.int .u8 0) Tryd.underlying49 Tryd.underlying9 hi hz0 ⟨g, off, none⟩ xs.length cap (xs.map bcellv) (by rw [hz1, List.length_map, Nat.mul_one])
        (fun j u hu => by
          rw [List.getElem?_map] at hu
          obtain ⟨x, hx, rfl⟩ := Option.map_eq_some_iff.1 hu
          obtain ⟨hj, rfl⟩ := List.getElem?_eq_some_iff.1 hx
          rw [add_off]; exact h7 j hj) s (by omega) (by omega) (by rw [hz2]; exact growslice_fits (by omega) (by omega))
      obtain ⟨cp, hcp⟩ : ∃ cp, grownCap w (xs.length + s.size) cap 5 = cp := ⟨_, rfl⟩
      have hge := grownCap_ge w (xs.length + s.size) cap 5
      have hcm : grownCap w (xs.length + s.size) cap 5 ≤ maxLen := grownCap_le_maxLen w _ _ _ (by unfold maxLen; omega)
      rw [hcp] at hr hge hcm
      obtain ⟨cur, hcur⟩ : ∃ cur, (xs.map bcellv).toArray ++ (Lib.strCells s).toArray ++ Builtin.zeroCells (Value.int .u8 0).cells (cp - (xs.length + s.size)) = cur := ⟨_, rfl⟩
      rw [hcur] at hr
      have hcs : cur.size = cp := by
        have hz1 : (Value.int IntKind.u8 0).cells.size = 1 := rfl
        rw [← hcur]
        simp only [Array.size_append, List.size_toArray, size_zeroCells, hz1, Lib.strCells_length, List.length_map]
        omega
      have hl2 : (xs ++ s.data.toList).length = xs.length + s.size := by rw [List.length_append, hsl]
      refine fin hr ⟨w.heap.size, 0, _, _, rfl, fun g => Nat.lt_irrefl _ (hP _ g)⟩ (fun k hk _ => ((Below.refl w.heap.size w).drew.alloc (Nat.le_refl _) _).block k hk) (Or.inr ⟨w.heap.size, 0, cp, by rw [hl2], hB, by simp, by rw [hl2]; exact hge, hcm, fun j hj => ?_, fun j hj => ?_⟩) ((Below.refl B w).drew.alloc hB _)
      · rw [Nat.zero_add]
        rw [show w.heap.size = w.drew.heap.size from rfl, World.cell?_alloc_mark, World.frozen?_alloc_mark]
        refine ⟨by simp; omega, by simp⟩
      · rw [Nat.zero_add, show w.heap.size = w.drew.heap.size from rfl, World.cell?_alloc_mark, ← hcur]
        rw [hl2] at hj
        by_cases hjx : j < xs.length
        · rw [Array.getElem?_append_left (by simp; omega), Array.getElem?_append_left (by simp; omega), List.getElem_append_left hjx]
          simp [hjx]
        · rw [Array.getElem?_append_left (by simp [Lib.strCells_length]; omega), Array.getElem?_append_right (by simp; omega), List.getElem_append_right (by omega)]
          have hjs : j - xs.length < s.size := by omega
          simp [Lib.strCells, bcellv, hjs]

/-- The operation, for the walk. -/
theorem wpList_ownX {w : World} {ops : Array Oper} {rest : List Oper} {o : Oper} {a : Act} {Q : Exit → Act → World → Prop} (hgd : o.guard = none) (sl x : Operand)
    (ho : o.op = .call { callee := .builtin .append, args := #[sl, x], argTypes := #[49, 9] })
    (B : Nat) (P : Nat → Prop) (v : Value) (xs : List UInt8) (hs : a.eval sl = v) (hown : OwnX w B P v xs) (s : ByteArray) (hx : a.eval x = .string s) (hB : B ≤ w.heap.size) (hP : ∀ k, P k → k < w.heap.size) (hsz : xs.length + s.size ≤ 100000000)
    (h : ∀ v' w', OwnX w' B P v' (xs ++ s.data.toList) → Below B w w' → (∀ k, k < w.heap.size → v.ownBlock ≠ some k → w'.heap[k]? = w.heap[k]?) → wpList Tryd.prog ops Q rest (a.put o.dst v') w') : wpList Tryd.prog ops Q (o :: rest) a w := by
  refine wpList_plain hgd fun K hK => ?_
  obtain ⟨v', w', hr, h2, h3, h4⟩ := hown.append hB hP s hsz o.type
  unfold Oper.wp execOp
  simp only [ho, resolve, invoke, builtin, Sem.run_bind, Sem.run_pure, Result.andThen_ok, List.map_toArray, List.map_cons, List.map_nil, hs, hx, hr]
  exact hK _ _ (h v' w' h2 h3 h4)
theorem OwnX.own {w : World} {B : Nat} {P : Nat → Prop} {v : Value} {xs : List UInt8} (h : OwnX w B P v xs) : OwnB w B v xs := h.1
theorem OwnX.under {w w' : World} {B C : Nat} {P : Nat → Prop} {v : Value} {xs : List UInt8} (h : OwnX w B P v xs) (k : Below C w w') (hC : w.heap.size ≤ C) : OwnX w' B P v xs := ⟨h.1.under k hC, h.2⟩
/-- It stands in none of those blocks. -/
theorem OwnX.of {w : World} {B : Nat} {P : Nat → Prop} {v : Value} {xs : List UInt8} (h : OwnB w B v xs) (hx : xs ≠ []) (hP : ∀ k, v.ownBlock = some k → ¬ P k) : OwnX w B P v xs := by
  refine ⟨h, ?_⟩
  rcases h with ⟨-, rfl⟩ | ⟨g, off, cap, rfl, h2, h3, -⟩
  · exact absurd rfl hx
  · exact ⟨g, off, _, _, rfl, hP g rfl⟩
/-- What stands in every block but those of P stands. -/
theorem OwnX.but {w w' : World} {B : Nat} {P : Nat → Prop} {v : Value} {xs : List UInt8} (h : OwnX w B P v xs) (hk : ∀ k, ¬ P k → w'.heap[k]? = w.heap[k]?) (hz : w.heap.size ≤ w'.heap.size) : OwnX w' B P v xs := by
  obtain ⟨h, g', off', n', c', hv, hgP⟩ := h
  refine ⟨?_, g', off', n', c', hv, hgP⟩
  rcases h with ⟨rfl, rfl⟩ | ⟨g, off, cap, rfl, h2, h3, h4, h5, h6, h7⟩
  · cases hv
  · obtain rfl : g = g' := by injection hv with e1; injection e1 with e1; injection e1
    have hc : ∀ j, w'.cell? ⟨g, j, none⟩ = w.cell? ⟨g, j, none⟩ := fun j => by unfold World.cell?; rw [hk g hgP]
    have hf : ∀ j, w'.frozen? ⟨g, j, none⟩ = w.frozen? ⟨g, j, none⟩ := fun j => by unfold World.frozen?; rw [hk g hgP]
    exact Or.inr ⟨g, off, cap, rfl, h2, by omega, h4, h5, fun j hj => ⟨by rw [hc]; exact (h6 j hj).1, by rw [hf]; exact (h6 j hj).2⟩, fun j hj => by rw [hc]; exact h7 j hj⟩
theorem OwnX.apart {w : World} {B : Nat} {P : Nat → Prop} {v : Value} {xs : List UInt8} (h : OwnX w B P v xs) {k : Nat} (hk : P k) : v.ownBlock ≠ some k := by
  obtain ⟨-, g, off, n, c, rfl, hg⟩ := h
  intro e
  have : g = k := by simpa [Value.ownBlock] using e
  subst this
  exact hg hk
theorem OwnB.young {w : World} {B T : Nat} {v : Value} {xs : List UInt8} (h : OwnB w B v xs) (hT : w.heap.size ≤ T) : v.ownBlock ≠ some T := by
  rcases h with ⟨rfl, -⟩ | ⟨g, off, cap, rfl, h2, h3, -⟩
  · intro e; cases e
  · intro e
    have : g = T := by simpa [Value.ownBlock] using e
    omega
theorem PtO.same {w w' : World} {b o : Nat} {p : Pt} (h : PtO w b o p) (k : w'.heap[b]? = w.heap[b]?) : PtO w' b o p := by
  have e : ∀ j, w'.cell? ⟨b, j, none⟩ = w.cell? ⟨b, j, none⟩ := fun j => World.cell?_of_block (w := w) k
  obtain ⟨c0, c1, c2, c3, c4, c5⟩ := h
  exact ⟨(e _).trans c0, (e _).trans c1, (e _).trans c2, (e _).trans c3, (e _).trans c4, (e _).trans c5⟩
theorem PtAt.same {w w' : World} {b : Nat} {p : Pt} (h : PtAt w b p) (k : w'.heap[b]? = w.heap[b]?) : PtAt w' b p := by
  have e : ∀ j, w'.cell? ⟨b, j, none⟩ = w.cell? ⟨b, j, none⟩ := fun j => World.cell?_of_block (w := w) k
  obtain ⟨c0, c1, c2, c3, c4, c5⟩ := h
  exact ⟨(e _).trans c0, (e _).trans c1, (e _).trans c2, (e _).trans c3, (e _).trans c4, (e _).trans c5⟩
theorem PtW.same {w w' : World} {b : Nat} {p : Pt} (h : PtW w b p) (k : w'.heap[b]? = w.heap[b]?) : PtW w' b p := by
  have f : ∀ j, w'.frozen? ⟨b, j, none⟩ = w.frozen? ⟨b, j, none⟩ := fun j => World.frozen?_of_block (w := w) k
  exact ⟨h.at_.same k, (f _).trans h.f0, (f _).trans h.f1, (f _).trans h.f2, (f _).trans h.f3, (f _).trans h.f4, (f _).trans h.f5⟩
end Go.Proofs.YtkomfenjeoaelaaDoor
