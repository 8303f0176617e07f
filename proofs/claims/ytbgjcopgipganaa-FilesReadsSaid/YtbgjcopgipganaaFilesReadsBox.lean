/- The law's own boxes beside a directory: three names, three marks, three texts. -/
import Derived.Test.YtbgjcopgipganaaFilesReadsMath
import Derived.Test.YtbgjcopgipganaaFilesArgOps
set_option maxRecDepth 20000
set_option linter.unusedSimpArgs false
namespace Go.Proofs.Ytbgjcopgipganaa
open Go.RowKit Go.Maps Go.Shelf

def nmC : Array Value := #[.string (key3 0), .string (key3 1), .string (key3 2)]
def isC (B : Nat → Bool) : Array Value := #[.bool (B 0), .bool (B 1), .bool (B 2)]
def hasC (H : Nat → ByteArray) : Array Value := #[.string (H 0), .string (H 1), .string (H 2)]
def updB (f : Nat → Bool) (i : Nat) (v : Bool) : Nat → Bool := fun j => if j = i then v else f j
def updH (f : Nat → ByteArray) (i : Nat) (v : ByteArray) : Nat → ByteArray := fun j => if j = i then v else f j
theorem nmC_at : ∀ i, i < 3 → nmC[i]? = some (.string (key3 i))
  | 0, _ => rfl
  | 1, _ => rfl
  | 2, _ => rfl
theorem isC_at (B : Nat → Bool) : ∀ i, i < 3 → (isC B)[i]? = some (.bool (B i))
  | 0, _ => rfl
  | 1, _ => rfl
  | 2, _ => rfl
theorem hasC_at (H : Nat → ByteArray) : ∀ i, i < 3 → (hasC H)[i]? = some (.string (H i))
  | 0, _ => rfl
  | 1, _ => rfl
  | 2, _ => rfl
theorem isC_set (B : Nat → Bool) (v : Bool) : ∀ i, i < 3 → (isC B).setIfInBounds i (.bool v) = isC (updB B i v)
  | 0, _ => rfl
  | 1, _ => rfl
  | 2, _ => rfl
theorem hasC_set (H : Nat → ByteArray) (v : ByteArray) : ∀ i, i < 3 → (hasC H).setIfInBounds i (.string v) = hasC (updH H i v)
  | 0, _ => rfl
  | 1, _ => rfl
  | 2, _ => rfl
structure Bx (w : World) (bn bi bh : Nat) (B : Nat → Bool) (H : Nat → ByteArray) : Prop where
  hn : w.heap[bn]? = some (.cells nmC 9)
  hb : w.heap[bi]? = some (.cells (isC B) 63)
  hh : w.heap[bh]? = some (.cells (hasC H) 64)
theorem Bx.of {w w' : World} {bn bi bh : Nat} {B : Nat → Bool} {H : Nat → ByteArray} (h : Bx w bn bi bh B H) (e1 : w'.heap[bn]? = w.heap[bn]?) (e2 : w'.heap[bi]? = w.heap[bi]?) (e3 : w'.heap[bh]? = w.heap[bh]?) : Bx w' bn bi bh B H := ⟨e1.trans h.hn, e2.trans h.hb, e3.trans h.hh⟩
theorem some_lt {w : World} {k : Nat} {o : Obj} (h : w.heap[k]? = some o) : k < w.heap.size := (Array.getElem?_eq_some_iff.1 h).1
structure RS (w0 w : World) (b bn bi bh : Nat) (S : FS) (L : Lay) (B : Nat → Bool) (H : Nat → ByteArray) : Prop where
  one : One w0 w b S L
  bnm : ∃ bm, L.bn = some bm
  whole : Whole S
  bx : Bx w bn bi bh B H
  l1 : w0.heap.size ≤ bi
  l2 : w0.heap.size ≤ bh
section
variable {w0 w w' : World} {b bn bi bh : Nat} {S S' : FS} {L L' : Lay} {B : Nat → Bool} {H : Nat → ByteArray}
theorem RS.dir (h : RS w0 w b bn bi bh S L B H) : Dir w b S L := ⟨h.one.at_, h.bnm, h.whole⟩
theorem RS.below (h : RS w0 w b bn bi bh S L B H) (k : Below w.heap.size w w') : RS w0 w' b bn bi bh S L B H :=
  ⟨h.one.below k, h.bnm, h.whole, h.bx.of (k.block _ (some_lt h.bx.hn)) (k.block _ (some_lt h.bx.hb)) (k.block _ (some_lt h.bx.hh)), h.l1, h.l2⟩
theorem RS.bx_went (h : RS w0 w b bn bi bh S L B H) (k : Went w w' b S S' L L') : Bx w' bn bi bh B H :=
  h.bx.of (k.frm.block _ (some_lt h.bx.hn) (h.one.at_.not h.bx.hn (by decide) (by decide) (by decide) (by decide))) (k.frm.block _ (some_lt h.bx.hb) (h.one.at_.not h.bx.hb (by decide) (by decide) (by decide) (by decide))) (k.frm.block _ (some_lt h.bx.hh) (h.one.at_.not h.bx.hh (by decide) (by decide) (by decide) (by decide)))
theorem RS.turn (h : RS w0 w b bn bi bh S L B H) (k : Went w w' b S S' L L') (d : Dir w' b S' L') : RS w0 w' b bn bi bh S' L' B H :=
  ⟨h.one.turn k, d.bn, d.whole, h.bx_went k, h.l1, h.l2⟩
theorem One.box {k j : Nat} {cs : Array Value} {T : TypeId} {v : Value} (h : One w0 w b S L) (hk : w.heap[k]? = some (.cells cs T)) (h1 : T ≠ 61) (h2 : T ≠ 71) (h3 : T ≠ 69) (h4 : T ≠ 5) (h5 : T ≠ 9) (h6 : T ≠ 67) (lo : w0.heap.size ≤ k) : One w0 (w.setCell ⟨k, j, none⟩ v) b S L := by
  have hnm := h.at_.not hk h1 h2 h3 h4
  have ho : ∀ i, i ≠ k → (w.setCell ⟨k, j, none⟩ v).heap[i]? = w.heap[i]? := fun i hi => heap_setCell_other w ⟨k, j, none⟩ i v hi
  refine ⟨h.at_.keep (fun i hi => ho i (fun e => hnm (e ▸ hi))) (fun i ds T' e hT => (ho i (kinds_ne e hk ?_)).trans e), h.lo, ⟨h.bel.os, h.bel.tape, h.bel.output, by have := h.bel.size; simpa using this, fun i hi => (ho i (by omega)).trans (h.bel.block i hi)⟩⟩
  rcases hT with rfl | rfl
  · exact fun e => h5 e.symm
  · exact fun e => h6 e.symm
theorem RS.setB (h : RS w0 w b bn bi bh S L B H) {i : Nat} (hi : i < 3) (v : Bool) : RS w0 (w.setCell ⟨bi, i, none⟩ (.bool v)) b bn bi bh S L (updB B i v) H :=
  ⟨h.one.box h.bx.hb (by decide) (by decide) (by decide) (by decide) (by decide) (by decide) h.l1, h.bnm, h.whole,
    ⟨(heap_setCell_other w ⟨bi, i, none⟩ bn _ (kinds_ne h.bx.hn h.bx.hb (by decide))).trans h.bx.hn, by rw [← isC_set B v i hi]; exact heap_setCell_same w bi i _ _ _ h.bx.hb, (heap_setCell_other w ⟨bi, i, none⟩ bh _ (kinds_ne h.bx.hh h.bx.hb (by decide))).trans h.bx.hh⟩, h.l1, h.l2⟩
theorem RS.setH (h : RS w0 w b bn bi bh S L B H) {i : Nat} (hi : i < 3) (v : ByteArray) : RS w0 (w.setCell ⟨bh, i, none⟩ (.string v)) b bn bi bh S L B (updH H i v) :=
  ⟨h.one.box h.bx.hh (by decide) (by decide) (by decide) (by decide) (by decide) (by decide) h.l2, h.bnm, h.whole,
    ⟨(heap_setCell_other w ⟨bh, i, none⟩ bn _ (kinds_ne h.bx.hn h.bx.hh (by decide))).trans h.bx.hn, (heap_setCell_other w ⟨bh, i, none⟩ bi _ (kinds_ne h.bx.hb h.bx.hh (by decide))).trans h.bx.hb, by rw [← hasC_set H v i hi]; exact heap_setCell_same w bh i _ _ _ h.bx.hh⟩, h.l1, h.l2⟩
theorem Bx.atN (h : Bx w bn bi bh B H) {i : Nat} (hi : i < 3) : w.cell? ⟨bn, i, none⟩ = some (.string (key3 i)) := (cell_of h.hn).trans (nmC_at i hi)
theorem Bx.atB (h : Bx w bn bi bh B H) {i : Nat} (hi : i < 3) : w.cell? ⟨bi, i, none⟩ = some (.bool (B i)) := (cell_of h.hb).trans (isC_at B i hi)
theorem Bx.atH (h : Bx w bn bi bh B H) {i : Nat} (hi : i < 3) : w.cell? ⟨bh, i, none⟩ = some (.string (H i)) := (cell_of h.hh).trans (hasC_at H i hi)
theorem Bx.fb (h : Bx w bn bi bh B H) {i : Nat} : w.frozen? ⟨bi, i, none⟩ = false := frozen_of h.hb
theorem Bx.fh (h : Bx w bn bi bh B H) {i : Nat} : w.frozen? ⟨bh, i, none⟩ = false := frozen_of h.hh
end
theorem heap_alloc_2 (w : World) (a b : Obj) : ((w.alloc a).alloc b).heap[w.heap.size + 1]? = some b := by
  have h := heap_alloc_new (w.alloc a) b
  have hz : (w.alloc a).heap.size = w.heap.size + 1 := by simp
  rw [hz] at h; exact h
theorem heap_alloc_3 (w : World) (a b c : Obj) : (((w.alloc a).alloc b).alloc c).heap[w.heap.size + 1 + 1]? = some c := by
  have h := heap_alloc_2 (w.alloc a) b c
  have hz : (w.alloc a).heap.size = w.heap.size + 1 := by simp
  rw [hz] at h; exact h
theorem start_rs {w w2 : World} {b : Nat} {L2 : Lay} (hO : One w w2 b (emptyS 1000000) L2) (hD : Dir w2 b (emptyS 1000000) L2) : RS w (((w2.alloc (.cells #[.string ⟨#[97]⟩, .string ⟨#[98]⟩, .string ⟨#[99]⟩] 9)).alloc (.cells #[.bool false, .bool false, .bool false] 63)).alloc (.cells #[.string ⟨#[]⟩, .string ⟨#[]⟩, .string ⟨#[]⟩] 64)) b w2.heap.size (w2.heap.size + 1) (w2.heap.size + 1 + 1) (emptyS 1000000) L2 (fun _ => false) (fun _ => ⟨#[]⟩) := by
  have hB : Below w2.heap.size w2 (((w2.alloc (.cells #[.string ⟨#[97]⟩, .string ⟨#[98]⟩, .string ⟨#[99]⟩] 9)).alloc (.cells #[.bool false, .bool false, .bool false] 63)).alloc (.cells #[.string ⟨#[]⟩, .string ⟨#[]⟩, .string ⟨#[]⟩] 64)) := bel_new (bel_new (bel_al w2 _) _) _
  have hs := hO.bel.size
  refine ⟨hO.below hB, hD.bn, hD.whole, ⟨?_, ?_, heap_alloc_3 _ _ _ _⟩, by omega, by omega⟩
  · exact ((bel_new (bel_al _ _) _).block w2.heap.size (by simp)).trans (heap_alloc_new w2 _)
  · exact ((bel_al _ _).block (w2.heap.size + 1) (by simp)).trans (heap_alloc_2 w2 _ _)
/-- The boxes say what the view says. -/
def Fits (V : Nat → Option ByteArray) (B : Nat → Bool) (H : Nat → ByteArray) : Prop := ∀ i, i < 3 → B i = (V i).isSome ∧ H i = (V i).getD ⟨#[]⟩
theorem fits_0 : Fits (fun _ => none) (fun _ => false) (fun _ => ⟨#[]⟩) := fun _ _ => ⟨rfl, rfl⟩
theorem fits_create {V : Nat → Option ByteArray} {B : Nat → Bool} {H : Nat → ByteArray} {x : Nat} (h : Fits V B H) (hx : x < 3) (hv : V x = none) : Fits (set3 V x (some ⟨#[]⟩)) (updB B x true) H := fun i hi => by
  unfold set3 updB
  by_cases e : i = x
  · subst e; rw [if_pos rfl, if_pos rfl]; exact ⟨rfl, (h i hi).2.trans (by rw [hv]; rfl)⟩
  · rw [if_neg e, if_neg e]; exact h i hi
theorem fits_same {V : Nat → Option ByteArray} {B : Nat → Bool} {H : Nat → ByteArray} {x : Nat} (h : Fits V B H) (hx : x < 3) {s : ByteArray} (hv : V x = some s) : Fits V (updB B x true) H := fun i hi => by
  unfold updB
  by_cases e : i = x
  · subst e; rw [if_pos rfl]; exact ⟨by rw [hv]; rfl, (h i hi).2⟩
  · rw [if_neg e]; exact h i hi
theorem fits_append {V : Nat → Option ByteArray} {B : Nat → Bool} {H : Nat → ByteArray} {x : Nat} (h : Fits V B H) (hx : x < 3) {s t : ByteArray} (hv : V x = some s) : Fits (set3 V x (some (s ++ t))) B (updH H x (s ++ t)) := fun i hi => by
  unfold set3 updH
  by_cases e : i = x
  · subst e; rw [if_pos rfl, if_pos rfl]; exact ⟨(h i hi).1.trans (by rw [hv]; rfl), rfl⟩
  · rw [if_neg e, if_neg e]; exact h i hi
theorem fits_delete {V : Nat → Option ByteArray} {B : Nat → Bool} {H : Nat → ByteArray} {x : Nat} (h : Fits V B H) : Fits (set3 V x none) (updB B x false) (updH H x ⟨#[]⟩) := fun i hi => by
  unfold set3 updB updH
  by_cases e : i = x
  · subst e; rw [if_pos rfl, if_pos rfl, if_pos rfl]; exact ⟨rfl, rfl⟩
  · rw [if_neg e, if_neg e, if_neg e]; exact h i hi
theorem fits_rename {V : Nat → Option ByteArray} {B : Nat → Bool} {H : Nat → ByteArray} {x y : Nat} (h : Fits V B H) (hx : x < 3) {s : ByteArray} (hv : V x = some s) (hne : x ≠ y) : Fits (ren3 V x y) (updB (updB B y true) x false) (updH (updH H y s) x ⟨#[]⟩) := fun i hi => by
  unfold ren3 updB updH
  by_cases e : i = x
  · subst e; rw [if_pos rfl, if_pos rfl, if_neg hne, if_pos rfl]; exact ⟨rfl, rfl⟩
  · by_cases e2 : i = y
    · subst e2; simp [e, hv]
    · rw [if_neg e, if_neg e2, if_neg e, if_neg e2, if_neg e2, if_neg e]; exact h i hi
theorem fits_self {V : Nat → Option ByteArray} {B : Nat → Bool} {H : Nat → ByteArray} {x : Nat} (h : Fits V B H) : Fits (ren3 V x x) B H := fun i hi => by
  unfold ren3
  by_cases e : i = x
  · subst e; rw [if_pos rfl]; exact h i hi
  · rw [if_neg e, if_neg e]; exact h i hi
theorem nrow_slice {w : World} {B : Nat} {v : Value} {l : List Nm} (h : NRow w B v l) : ∃ a c, v = .slice a l.length c := by
  rcases h.2 with ⟨rfl, h0⟩ | ⟨g, cap, cur, rfl, _⟩
  · exact ⟨none, 0, by rw [h0]⟩
  · exact ⟨_, _, rfl⟩
theorem set3_none {V : Nat → Option ByteArray} {x : Nat} (h : V x = none) : set3 V x none = V := funext fun i => by
  unfold set3
  by_cases e : i = x
  · rw [if_pos e, e, h]
  · rw [if_neg e]
theorem key3_len (i : Nat) : (key3 i).size ≤ maxLen := by
  unfold key3 maxLen
  split
  · decide
  · split <;> decide
def cnt3 (V : Nat → Option ByteArray) : Nat → Nat
  | 0 => 0
  | n + 1 => cnt3 V n + one3 (V n)
theorem cnt3_le (V : Nat → Option ByteArray) : ∀ n, cnt3 V n ≤ n
  | 0 => Nat.le_refl _
  | n + 1 => by
    have := cnt3_le V n
    unfold cnt3 one3
    split <;> omega
theorem cnt3_all (V : Nat → Option ByteArray) : cnt3 V 3 = one3 (V 0) + one3 (V 1) + one3 (V 2) := by
  unfold cnt3 cnt3 cnt3 cnt3; omega
theorem and_1 (n : Int) : bits .and .i64 n 1 = n % 2 := by
  have h1 : (BitVec.ofInt 64 1).toNat = 2 ^ 1 - 1 := by decide
  have key : (BitVec.ofInt 64 n &&& BitVec.ofInt 64 1).toNat = (n % ((2 ^ 64 : Nat) : Int)).toNat % 2 ^ 1 := by
    rw [BitVec.toNat_and, BitVec.toNat_ofInt, h1, Nat.and_two_pow_sub_one_eq_mod]
  show IntKind.i64.wrap ((BitVec.ofInt 64 n &&& BitVec.ofInt 64 1).toNat : Nat) = n % 2
  rw [key, IntKind.wrap_i64]
  omega
end Go.Proofs.Ytbgjcopgipganaa
