/- The document's network: small functions, its state. -/
import Derived.Test.YtnjabhjcnkbgpaaNetOnceRow
set_option maxRecDepth 20000
set_option linter.unusedSimpArgs false
set_option linter.unusedVariables false
namespace Go.Proofs.Ytnjabhjcnkbgpaa
open Go.RowKit

theorem rend_is (a : Int) (w : World) : Calls Try.prog 44 #[.int .i64 a] w fun e w' => e = .returned (.bool (endB a)) ∧ w = w' := by
  by_cases h0 : 0 ≤ a
  · by_cases h1 : a < 64
    · have HZ := Lib.hid (show endB a = true by unfold endB; rw [decide_eq_true h0, decide_eq_true h1]; rfl)
      go_enter Try.func44, Try.ntmps44
      go_wp2
      go_ret
      exact ⟨by rw [HZ.out]; rfl, rfl⟩
    · have HZ := Lib.hid (show endB a = false by unfold endB; rw [decide_eq_true h0, decide_eq_false h1]; rfl)
      go_enter Try.func44, Try.ntmps44
      go_wp2
      go_ret
      exact ⟨by rw [HZ.out]; rfl, rfl⟩
  · have HZ := Lib.hid (show endB a = false by unfold endB; rw [decide_eq_false h0]; rfl)
    go_enter Try.func44, Try.ntmps44
    go_wp2
    go_ret
    exact ⟨by rw [HZ.out]; rfl, rfl⟩
theorem which_is (x : Int) (k : Nat) (w : World) (hx : -9223372036854775808 ≤ x ∧ x ≤ 9223372036854775807) (hk : 0 < k) (hk2 : k ≤ 1000000) : Calls Try.prog 39 #[.int .i64 x, .int .i64 (k : Int)] w fun e w' => e = .returned (.int .i64 (pickN x k : Int)) ∧ w = w' := by
  obtain ⟨h0, h1, h2, h3⟩ := pick_lt x hk
  have hz2 : ¬ (k : Int) = 0 := by omega
  have hz : ((k : Int) == 0) = false := by rw [beq_eq_false_iff_ne]; omega
  rw [← h2]
  by_cases hn : x < 0
  · obtain ⟨z, hzz⟩ : ∃ z, (-(x + 1)).tmod (k : Int) = z := ⟨_, rfl⟩
    have HP := Lib.hid (show pickI x k = z by unfold pickI; rw [if_pos hn]; exact hzz)
    have e1 : IntKind.i64.wrap (x + 1) = x + 1 := by rw [IntKind.wrap_i64]; omega
    have e2 : IntKind.i64.wrap (-(x + 1)) = -(x + 1) := by rw [IntKind.wrap_i64]; omega
    have e3 : IntKind.i64.wrap z = z := by rw [IntKind.wrap_i64]; have := HP.out; omega
    rw [HP.out]
    have hh : (x + 1).tmod (k : Int) = -z := by rw [← hzz, Int.neg_tmod]; omega
    clear h0 h1 h2 h3
    go_enter Try.func39, Try.ntmps39
    go_wp2
    go_ret
    exact ⟨rfl, rfl⟩
  · obtain ⟨z, hzz⟩ : ∃ z, x.tmod (k : Int) = z := ⟨_, rfl⟩
    have HP := Lib.hid (show pickI x k = z by unfold pickI; rw [if_neg hn]; exact hzz)
    have e3 : IntKind.i64.wrap z = z := by rw [IntKind.wrap_i64]; have := HP.out; omega
    rw [HP.out]
    clear h0 h1 h2 h3
    go_enter Try.func39, Try.ntmps39
    go_wp2
    go_ret
    exact ⟨rfl, rfl⟩
theorem below_setN (w : World) (v : Int × Int) : Below w.heap.size (w.alloc (.cells #[.int .i64 0, .int .i64 0] 47)) (((w.alloc (.cells #[.int .i64 0, .int .i64 0] 47)).setCell ⟨w.heap.size, 0, none⟩ (.int .i64 v.1)).setCell ⟨w.heap.size, 1, none⟩ (.int .i64 v.2)) :=
  (below_set _ _ _ _ (Nat.le_refl _)).trans (below_set _ _ _ _ (Nat.le_refl _))
def pairI (a b : Int) : Int × Int := if b < a then (b, a) else (a, b)
theorem rpair_is (a b : Int) (w : World) : Calls Try.prog 45 #[.int .i64 a, .int .i64 b] w fun e w' => e = .returned (.agg #[.int .i64 (pairI a b).1, .int .i64 (pairI a b).2]) ∧ Below w.heap.size w w' := by
  by_cases h : b < a
  · have HZ := Lib.hid (show pairI a b = (b, a) from if_pos h)
    go_enter Try.func45, Try.ntmps45
    go_wp2
    refine bodyPost_ret (v := .agg #[.int .i64 b, .int .i64 a]) (by simp [results, Try.results45, go_sem]; try rfl) rfl ⟨by rw [HZ.out], bel_al _ _⟩
  · have HZ := Lib.hid (show pairI a b = (a, b) from if_neg h)
    go_enter Try.func45, Try.ntmps45
    go_wp2
    refine bodyPost_ret (v := .agg #[.int .i64 a, .int .i64 b]) (by simp [results, Try.results45, go_sem]; try rfl) rfl ⟨by rw [HZ.out], bel_al _ _⟩
/-- The document's network. -/
structure RN where
  mail : List Ml
  last : Int
  ps : List (Int × Int)
def isP (ps : List (Int × Int)) (a b : Int) : Bool := ps.any fun p => decide (p = pairI a b)
def acells (p : Int × Int) : List Value := [.int .i64 p.1, .int .i64 p.2]
theorem aflat_len (l : List (Int × Int)) : (l.flatMap acells).length = l.length * 2 := by
  induction l with
  | nil => rfl
  | cons m r ih => rw [List.flatMap_cons, List.length_append, ih]; simp [acells]; omega
theorem aflat_at (l : List (Int × Int)) (i : Nat) (h : i < l.length) (r : Nat) (hr : r < 2) : (l.flatMap acells)[i * 2 + r]? = (acells l[i])[r]? := by
  induction l generalizing i with
  | nil => simp at h
  | cons m t ih =>
    rw [List.flatMap_cons]
    cases i with
    | zero => rw [List.getElem?_append_left (by simp [acells]; omega)]; simp
    | succ i =>
      rw [List.getElem?_append_right (by simp [acells]; omega)]
      have e : (i + 1) * 2 + r - (acells m).length = i * 2 + r := by simp [acells]; omega
      rw [e, ih i (by simpa using h)]; simp
theorem acells_one {l : List (Int × Int)} {u : Value} (h : u ∈ l.flatMap acells) : u.oneCell' = true := by
  obtain ⟨p, _, hu⟩ := List.mem_flatMap.1 h
  simp [acells] at hu
  rcases hu with rfl | rfl <;> rfl
def ARow (w : World) (B : Nat) (v : Value) (l : List (Int × Int)) : Prop := w.ownsRow B 47 2 v l.length (l.flatMap acells)
theorem ARow.slice {w : World} {B : Nat} {v : Value} {l : List (Int × Int)} (h : ARow w B v l) : ∃ a c, v = .slice a l.length c := ownsRow_slice h
theorem ARow.nil (w : World) (B : Nat) : ARow w B (.slice none 0 0) [] := World.ownsRow_nil _ _ _ _
theorem ARow.later {w w' : World} {B : Nat} {v : Value} {l : List (Int × Int)} (h : ARow w B v l) (k : Below w.heap.size w w') : ARow w' B v l := owns_later h k
theorem ARow.mono {w : World} {B B' : Nat} {v : Value} {l : List (Int × Int)} (h : ARow w B v l) (k : B' ≤ B) : ARow w B' v l := World.ownsRow.mono h k
theorem ARow.block {w : World} {B : Nat} {a : Option Addr} {n c : Nat} {l : List (Int × Int)} (h : ARow w B (.slice a n c) l) (h0 : 0 < l.length) : ∃ g, a = some ⟨g, 0, none⟩ ∧ g < w.heap.size ∧ ∀ j (hj : j < l.length), w.cell? ⟨g, j * 2, none⟩ = some (.int .i64 l[j].1) ∧ w.cell? ⟨g, j * 2 + 1, none⟩ = some (.int .i64 l[j].2) := by
  rcases h.2 with ⟨hv, h2⟩ | ⟨g, cap, cur, hv, hg, hh, hn, hm, hs, ht⟩
  · omega
  · have h1 := h
    unfold ARow at h1
    rw [hv] at h1
    injection hv with e1 e2 e3
    subst e1 e2
    have e := World.ownsRow.cellAt h1
    refine ⟨g, rfl, (Array.getElem?_eq_some_iff.1 hh).1, fun j hj => ?_⟩
    have f : ∀ r, r < 2 → w.cell? ⟨g, j * 2 + r, none⟩ = (acells l[j])[r]? := fun r hr => by rw [e (j * 2 + r) (by omega), aflat_at l j hj r hr]
    exact ⟨f 0 (by decide), f 1 (by decide)⟩
structure RAt (w : World) (B r : Nat) (VL VP : Value) (R : RN) : Prop where
  hb : w.heap[r]? = some (.cells #[VL, .int .i64 R.last, VP] 30)
  rowL : MRow w B VL R.mail
  rowP : ARow w B VP R.ps
  base : B ≤ r
  len : R.mail.length ≤ 2000
  lenp : R.ps.length ≤ 1000
def rmods (r : Nat) (VL VP : Value) (k : Nat) : Prop := k = r ∨ VL.ownBlock = some k ∨ VP.ownBlock = some k
theorem RAt.lt {w : World} {B r : Nat} {VL VP : Value} {R : RN} (h : RAt w B r VL VP R) : r < w.heap.size := (Array.getElem?_eq_some_iff.1 h.hb).1
theorem RAt.mods {w : World} {B r : Nat} {VL VP : Value} {R : RN} (h : RAt w B r VL VP R) {k : Nat} (hk : rmods r VL VP k) : B ≤ k ∧ k < w.heap.size := by
  rcases hk with rfl | hk | hk
  · exact ⟨h.base, h.lt⟩
  · exact World.ownsRow.lt h.rowL k hk
  · exact World.ownsRow.lt h.rowP k hk
theorem RAt.c0 {w : World} {B r : Nat} {VL VP : Value} {R : RN} (h : RAt w B r VL VP R) : w.cell? ⟨r, 0, none⟩ = some VL ∧ w.cell? ⟨r, 1, none⟩ = some (.int .i64 R.last) ∧ w.cell? ⟨r, 2, none⟩ = some VP ∧ ∀ j, w.frozen? ⟨r, j, none⟩ = false :=
  ⟨cell_of h.hb, cell_of h.hb, cell_of h.hb, fun j => frozen_of h.hb⟩
theorem RAt.later {w w' : World} {B r : Nat} {VL VP : Value} {R : RN} (h : RAt w B r VL VP R) (k : Below w.heap.size w w') : RAt w' B r VL VP R :=
  ⟨(k.block r h.lt).trans h.hb, h.rowL.later k, h.rowP.later k, h.base, h.len, h.lenp⟩
/-- Whatever keeps its blocks keeps it. -/
theorem RAt.keep {w w' : World} {B r : Nat} {VL VP : Value} {R : RN} (h : RAt w B r VL VP R) (k : ∀ i, rmods r VL VP i → w'.heap[i]? = w.heap[i]?) : RAt w' B r VL VP R :=
  ⟨(k r (Or.inl rfl)).trans h.hb, row_of h.rowL fun i e => k i (Or.inr (Or.inl e)), row_of h.rowP fun i e => k i (Or.inr (Or.inr e)), h.base, h.len, h.lenp⟩
structure RW (w w' : World) (B r : Nat) (VL VP VL' VP' : Value) (R' : RN) : Prop where
  at_ : RAt w' B r VL' VP' R'
  frm : Frm (rmods r VL VP) w w'
  sub : ∀ k, rmods r VL' VP' k → rmods r VL VP k ∨ w.heap.size ≤ k
theorem RW.refl {w : World} {B r : Nat} {VL VP : Value} {R : RN} (h : RAt w B r VL VP R) : RW w w B r VL VP VL VP R := ⟨h, Frm.refl _ _, fun _ h => Or.inl h⟩
theorem RW.of_below {w w' : World} {B r : Nat} {VL VP : Value} {R : RN} (h : RAt w B r VL VP R) (k : Below w.heap.size w w') : RW w w' B r VL VP VL VP R := ⟨h.later k, Frm.of_below k, fun _ h => Or.inl h⟩
theorem RW.trans {w w' w'' : World} {B r : Nat} {VL VP VL' VP' VL'' VP'' : Value} {R' R'' : RN} (h : RW w w' B r VL VP VL' VP' R') (k : RW w' w'' B r VL' VP' VL'' VP'' R'') : RW w w'' B r VL VP VL'' VP'' R'' :=
  ⟨k.at_, h.frm.trans k.frm h.sub, fun i hi => by
    rcases k.sub i hi with h1 | h1
    · exact h.sub i h1
    · exact Or.inr (Nat.le_trans h.frm.size h1)⟩
theorem RW.ahead {w w' w'' : World} {B r : Nat} {VL VP VL' VP' : Value} {R' : RN} (k : Below w.heap.size w w') (h : RW w' w'' B r VL VP VL' VP' R') : RW w w'' B r VL VP VL' VP' R' :=
  ⟨h.at_, Frm.trans (Mo := rmods r VL VP) (Frm.of_below k) h.frm fun i hi => Or.inl hi, fun i hi => by
    rcases h.sub i hi with h1 | h1
    · exact Or.inl h1
    · exact Or.inr (Nat.le_trans k.size h1)⟩
def RDone (B r : Nat) (VL VP : Value) (R' : RN) (v : Value) (w : World) (e : Ending) (w' : World) : Prop := ∃ VL' VP', e = .returned v ∧ RW w w' B r VL VP VL' VP' R'
section
variable {w w' : World} {B r : Nat} {VL VP V' : Value} {R : RN}
theorem tml_ne {k : Nat} {B' n sz : Nat} {xs : List Value} {T : TypeId} (h : w'.ownsRow B' T sz V' n xs) (hk : V'.ownBlock = some k) {cs : Array Value} {T' : TypeId} {f : Nat × Nat} (hb : w'.heap[r]? = some (.cells cs T' f)) (hT : T ≠ T') : k ≠ r := by
  obtain ⟨cur, hc⟩ := row_heap h hk
  exact kinds_ne hc hb hT
/-- A slice of messages has been stored. -/
theorem RAt.mail_ {l : List Ml} (h : RAt w B r VL VP R) (hf : Frm (rmods r VL VP) w w') (hb : w'.heap[r]? = w.heap[r]?) (hp : ∀ k, VP.ownBlock = some k → w'.heap[k]? = w.heap[k]?) (hr : MRow w' B V' l) (hl : l.length ≤ 2000) (hs : ∀ k, V'.ownBlock = some k → VL.ownBlock = some k ∨ w.heap.size ≤ k) : RW w (w'.setCell ⟨r, 0, none⟩ V') B r VL VP V' VP { R with mail := l } := by
  have hb' := hb.trans h.hb
  have hP : ARow w' B VP R.ps := row_of h.rowP hp
  refine ⟨⟨heap_setCell_same w' r 0 _ _ _ hb', row_of hr fun k hk => heap_setCell_other _ _ _ _ (tml_ne hr hk hb' (by decide)), row_of hP fun k hk => heap_setCell_other _ _ _ _ (tml_ne hP hk hb' (by decide)), h.base, hl, h.lenp⟩,
    Frm.trans (Mo := rmods r VL VP) (Mo' := rmods r VL VP) hf (Frm.set _ _ _ _ (Or.inl rfl)) fun i hi => Or.inl hi, ?_⟩
  rintro k (rfl | hk | hk)
  · exact Or.inl (Or.inl rfl)
  · rcases hs k hk with e | e
    · exact Or.inl (Or.inr (Or.inl e))
    · exact Or.inr e
  · exact Or.inl (Or.inr (Or.inr hk))
/-- A slice of pairs has been stored. -/
theorem RAt.pairs {l : List (Int × Int)} (h : RAt w B r VL VP R) (hf : Frm (rmods r VL VP) w w') (hb : w'.heap[r]? = w.heap[r]?) (hp : ∀ k, VL.ownBlock = some k → w'.heap[k]? = w.heap[k]?) (hr : ARow w' B V' l) (hl : l.length ≤ 1000) (hs : ∀ k, V'.ownBlock = some k → VP.ownBlock = some k ∨ w.heap.size ≤ k) : RW w (w'.setCell ⟨r, 2, none⟩ V') B r VL VP VL V' { R with ps := l } := by
  have hb' := hb.trans h.hb
  have hL : MRow w' B VL R.mail := row_of h.rowL hp
  refine ⟨⟨heap_setCell_same w' r 2 _ _ _ hb', row_of hL fun k hk => heap_setCell_other _ _ _ _ (tml_ne hL hk hb' (by decide)), row_of hr fun k hk => heap_setCell_other _ _ _ _ (tml_ne hr hk hb' (by decide)), h.base, h.len, hl⟩,
    Frm.trans (Mo := rmods r VL VP) (Mo' := rmods r VL VP) hf (Frm.set _ _ _ _ (Or.inl rfl)) fun i hi => Or.inl hi, ?_⟩
  rintro k (rfl | hk | hk)
  · exact Or.inl (Or.inl rfl)
  · exact Or.inl (Or.inr (Or.inl hk))
  · rcases hs k hk with e | e
    · exact Or.inl (Or.inr (Or.inr e))
    · exact Or.inr e
theorem RW.last_ (h : RAt w B r VL VP R) (n : Int) : RW w (w.setCell ⟨r, 1, none⟩ (.int .i64 n)) B r VL VP VL VP { R with last := n } :=
  ⟨⟨heap_setCell_same w r 1 _ _ _ h.hb, row_of h.rowL fun k hk => heap_setCell_other _ _ _ _ (tml_ne h.rowL hk h.hb (by decide)), row_of h.rowP fun k hk => heap_setCell_other _ _ _ _ (tml_ne h.rowP hk h.hb (by decide)), h.base, h.len, h.lenp⟩, Frm.set _ _ _ _ (Or.inl rfl), fun _ e => Or.inl e⟩
end
end Go.Proofs.Ytnjabhjcnkbgpaa
