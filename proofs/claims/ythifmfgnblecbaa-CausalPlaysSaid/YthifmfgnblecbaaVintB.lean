/- Joined: VintRefGet, VintReader, VintClone, VintMeth, VintSmall, VintRefRd, VintRefMeth. -/
import Derived.Test.YthifmfgnblecbaaVintA
import Derived.Deep.RegionHeld3
import Derived.Deep.QuietTactic
import Derived.BigQuiet
import Derived.Lib.Strings
import Derived.Lib.Walk
import Derived.Lib.BufferWrite
import Derived.Lib.UnsafeStr
import Derived.Laws.MakeOwn
import Derived.Laws.AppendOwn
import Derived.Below
/- The contract of the document's Get. -/
namespace Go.Proofs.Ythifmfgnblecbaa
open Go.RowKit Go.Proofs.Ythifmfgnblecbaa.Vi

/-- The digits of a text from a place on, the last n - j of n, as the document's loop sums them up. -/
def sumUp (l : List UInt8) (a n j : Nat) : Nat := val ((l.drop (a + j)).take (n - j)) % 18446744073709551616
theorem sumUp_end (l : List UInt8) (a n : Nat) : sumUp l a n n = 0 := by unfold sumUp; simp [val]
theorem sumUp_step {l : List UInt8} {a n j : Nat} (h : a + j < l.length) (hj : j < n) : ((l[a + j]).toNat % 128 + 128 * sumUp l a n (j + 1)) % 18446744073709551616 = sumUp l a n j := by
  unfold sumUp
  rw [show l.drop (a + j) = l[a + j] :: l.drop (a + (j + 1)) from List.drop_eq_getElem_cons h, show n - j = (n - (j + 1)) + 1 by omega, List.take_succ_cons]
  show _ = ((l[a + j]).toNat % 128 + 128 * val _) % _
  omega
theorem getR_of {l : List UInt8} {a : Nat} {v p e : Int} (h : getR l (a : Int) = (v, p, e)) {o : Option (Nat × Nat)} (ho : getL 0 (l.drop a) = o) :
    (o = none ∧ v = 0 ∧ p = 0 ∧ e = 10) ∨ ∃ u m : Nat, o = some (u, m) ∧ v = (u : Int) ∧ p = (a : Int) + (m : Int) ∧ e = 0 := by
  unfold getR at h
  rw [if_neg (by omega), Int.toNat_natCast, ho] at h
  cases o with
  | none => left; simpa [eq_comm] using h
  | some x =>
    right
    simp at h
    obtain ⟨rfl, rfl, rfl⟩ := h
    exact ⟨x.1, x.2, rfl, rfl, rfl, rfl⟩
/-- What the document's Get leaves. -/
def GotDone (v p e : Int) (w : World) (r : Ending) (w' : World) : Prop := r = .returned (.tuple #[.int .u64 v, .int .i64 p, .int .i64 e]) ∧ Below w.heap.size w w'
theorem extract_tx (s : ByteArray) (a n : Nat) : s.extract a (a + n) = tx ((s.data.toList.drop a).take n) := by
  apply ByteArray.ext
  apply Array.toList_inj.1
  simp [tx, ByteArray.data_extract]
theorem str_ne {a b : ByteArray} (h : ¬ a = b) : (a.toList == b.toList) = false := by
  rw [ByteArray.toList_eq, ByteArray.toList_eq]
  apply Bool.eq_false_iff.2
  intro e
  exact h (ByteArray.ext (Array.toList_inj.1 (eq_of_beq e)))

end Go.Proofs.Ythifmfgnblecbaa

/- Contracts of the methods of package vint's Reader. -/
namespace Go.Proofs.Ythifmfgnblecbaa
open Go.RowKit Go.Proofs.Ythifmfgnblecbaa.Vi

/-- Of what was there block b alone may have turned. -/
structure But (b : Nat) (w w' : World) : Prop where
  os : w'.os = w.os
  tape : w'.tape = w.tape
  output : w'.output = w.output
  size : w.heap.size ≤ w'.heap.size
  block : ∀ k, k < w.heap.size → k ≠ b → w'.heap[k]? = w.heap[k]?
theorem But.refl (b : Nat) (w : World) : But b w w := ⟨rfl, rfl, rfl, Nat.le_refl _, fun _ _ _ => rfl⟩
theorem But.trans {b : Nat} {u v w : World} (h : But b u v) (k : But b v w) : But b u w :=
  ⟨k.os.trans h.os, k.tape.trans h.tape, k.output.trans h.output, Nat.le_trans h.size k.size, fun i hi hb => (k.block i (Nat.lt_of_lt_of_le hi h.size) hb).trans (h.block i hi hb)⟩
theorem But.of {b : Nat} {w w' : World} (h : Below w.heap.size w w') : But b w w' := ⟨h.os, h.tape, h.output, h.size, fun k hk _ => h.block k hk⟩
theorem But.drew {b : Nat} {u w : World} (h : But b u w) : But b u w.drew := ⟨h.os, h.tape, h.output, h.size, h.block⟩
theorem But.alloc {b : Nat} {u w : World} (h : But b u w) (o : Obj) : But b u (w.alloc o) := h.trans (But.of ((Below.refl _ w).alloc (Nat.le_refl _) o))
theorem But.setCell {b : Nat} {u w : World} (h : But b u w) (o : Nat) (v : Value) : But b u (w.setCell ⟨b, o, none⟩ v) :=
  h.trans ⟨rfl, rfl, rfl, by simp [World.setCell], fun k _ hb => Below.heap_setCell _ _ _ _ hb⟩
theorem But.below {b B : Nat} {w w' : World} (h : But b w w') (hb : B ≤ b) (hB : B ≤ w.heap.size) : Below B w w' := ⟨h.os, h.tape, h.output, h.size, fun k hk => h.block k (by omega) (by omega)⟩
theorem But.cell {b : Nat} {w w' : World} (h : But b w w') {p : Addr} (hp : p.block ≠ b) (hw : p.block < w.heap.size) : w'.cell? p = w.cell? p := World.cell?_of_block (w := w) (h.block p.block hw hp)
theorem But.frozen {b : Nat} {w w' : World} (h : But b w w') {p : Addr} (hp : p.block ≠ b) (hw : p.block < w.heap.size) : w'.frozen? p = w.frozen? p := World.frozen?_of_block (w := w) (h.block p.block hw hp)

/-- The two cells of a Reader in block b: what is left, and whether it is broken. -/
structure RA (w : World) (b : Nat) (r : ByteArray) (br : Bool) : Prop where
  c0 : w.cell? ⟨b, 0, none⟩ = some (.string r)
  c1 : w.cell? ⟨b, 1, none⟩ = some (.bool br)
  f0 : w.frozen? ⟨b, 0, none⟩ = false
  f1 : w.frozen? ⟨b, 1, none⟩ = false
theorem RA.room {w : World} {b : Nat} {r : ByteArray} {br : Bool} (h : RA w b r br) : b < w.heap.size := World.block_lt_of_cell? w _ h.c0
theorem RA.below {w w' : World} {b : Nat} {r : ByteArray} {br : Bool} (h : RA w b r br) (k : Below w.heap.size w w') : RA w' b r br :=
  ⟨(k.cell (p := ⟨b, 0, none⟩) h.room).trans h.c0, (k.cell (p := ⟨b, 1, none⟩) h.room).trans h.c1, (k.frozen (p := ⟨b, 0, none⟩) h.room).trans h.f0, (k.frozen (p := ⟨b, 1, none⟩) h.room).trans h.f1⟩
theorem RA.but {w w' : World} {b d : Nat} {r : ByteArray} {br : Bool} (h : RA w b r br) (k : But d w w') (hd : b ≠ d) : RA w' b r br :=
  ⟨(k.cell (p := ⟨b, 0, none⟩) hd h.room).trans h.c0, (k.cell (p := ⟨b, 1, none⟩) hd h.room).trans h.c1, (k.frozen (p := ⟨b, 0, none⟩) hd h.room).trans h.f0, (k.frozen (p := ⟨b, 1, none⟩) hd h.room).trans h.f1⟩

/-- A method's answer, and what the reader is then. -/
def Took (b : Nat) (v : Value) (r : ByteArray) (br : Bool) (w : World) (e : Ending) (w' : World) : Prop := e = .returned v ∧ RA w' b r br ∧ But b w w'

theorem makeFunc_run (fn : Fn) (first cap : Array Value) (w : World) : (Instr.makeFunc fn first cap).run Try.prog w = .ok (.func fn first cap) w := rfl
theorem getR_some {l : List UInt8} {v m : Nat} (h : getL 0 l = some (v, m)) : getR l 0 = ((v : Int), (m : Int), 0) := by
  unfold getR
  rw [if_neg (by omega)]
  show (match getL 0 l with | none => _ | some (v, m) => _) = _
  rw [h]; simp
theorem getR_none {l : List UInt8} (h : getL 0 l = none) : getR l 0 = (0, 0, 10) := by
  unfold getR
  rw [if_neg (by omega)]
  show (match getL 0 l with | none => _ | some (v, m) => _) = _
  rw [h]
theorem getL_bounds {l : List UInt8} {v m : Nat} (h : getL 0 l = some (v, m)) : v < 18446744073709551616 ∧ 1 ≤ m ∧ m ≤ l.length := by
  obtain ⟨h1, -, h3, rest, h4⟩ := getL_some l 0 v m (by omega) h
  refine ⟨h1, by rw [h3]; exact enc_len_pos v, ?_⟩
  rw [h4, h3, List.length_append]; omega
/-- What is left behind the first m bytes. -/
def restB (r : ByteArray) (m : Nat) : ByteArray := r.extract m r.size
theorem restB_size (r : ByteArray) (m : Nat) : (restB r m).size = r.size - m := by unfold restB; simp

end Go.Proofs.Ythifmfgnblecbaa

/- The contract of strings.Clone over this seat's translation: the same bytes. -/
namespace Go.Proofs.Ythifmfgnblecbaa
open Go.RowKit

theorem infoU : (Try.prog.info? 5).map (fun i => (i.zero, i.size, i.bytes)) = some (some (.int .u8 0), 1, 1) := by kernel_rfl

set_option maxHeartbeats 4000000 in
set_option maxRecDepth 100000 in
theorem inner_clone (s : ByteArray) (w : World) (hlim : s.size ≤ 100000) : Calls Try.prog 68 #[.string s] w fun e w' => e = .returned (.string s) ∧ Below w.heap.size w w' := by
  rcases Nat.eq_zero_or_pos s.size with h0 | h0
  · obtain rfl : s = ⟨#[]⟩ := ByteArray.ext (Array.eq_empty_of_size_eq_zero h0)
    go_enter Try.func68, Try.ntmps68
    go_wp2
    go_ret
    exact ⟨rfl, Below.refl _ _⟩
  · obtain ⟨i0, hi, hz0, hz1, hz2⟩ := info_parts infoU
    have hone : Try.prog.cellsOf 5 = 1 := by kernel_rfl
    -- the new row
    obtain ⟨row, hrow⟩ : ∃ row, madeCells (Value.int .u8 0).cells (((s.size : Nat) : Int).toNat * i0.size) = row := ⟨_, rfl⟩
    have hrs : row.size = s.size := by rw [← hrow, size_madeCells, hz1]; simp
    have hmake : ∀ W : World, (Instr.makeSlice 84 (.int .i64 (s.size : Int)) (.int .i64 (s.size : Int))).run Try.prog W = .ok (.slice (some ⟨W.heap.size, 0, none⟩) s.size s.size) (W.alloc (.cells row 5)) := fun W => by
      have h := run_make (P := Try.prog) W 84 5 i0 (.int .u8 0) Try.underlying84 hi hz0 .i64 .i64 (s.size : Int) (s.size : Int) (by omega) (by omega) (by rw [hz2]; omega) (by omega)
      rw [hrow] at h
      simpa using h
    clear hrow
    -- the row behind the copy
    obtain ⟨cells, hcells⟩ : ∃ cells, (row.toList.take 0 ++ Lib.byteCells s.data.toList ++ row.toList.drop (0 + s.size)).toArray = cells := ⟨_, rfl⟩
    have hcopy := Lib.run_copy_row_string (P := Try.prog) (w.alloc (.cells row 5)) 84 9 3 5 w.heap.size 0 s.size s.size s row 5 Try.underlying84 (by rw [hi]; simp [hz1]) (heap_alloc_new w _) (Nat.le_refl _) (by omega)
    rw [hcells] at hcopy
    have hcl : cells.toList = Lib.byteCells s.data.toList := by
      rw [← hcells, List.take_zero, List.nil_append, List.drop_of_length_le (by simp [hrs]), List.append_nil]
    have hcs : cells.size = s.size := by rw [← Array.length_toList, hcl, Lib.byteCells_length, ← Lib.size_eq]
    have hblock : ((w.alloc (.cells row 5)).setRow w.heap.size cells).heap[w.heap.size]? = some (.cells cells 5 (0, 0)) := setRow_heap _ _ row _ 5 (0, 0) (heap_alloc_new w _)
    -- the text over it
    have htext := Lib.run_unsafeString_row (P := Try.prog) ((w.alloc (.cells row 5)).setRow w.heap.size cells) 85 3 9 5 Try.underlying85 hone w.heap.size cells.size (by unfold World.shape?; rw [hblock]) s.data.toList
      (by intro e; rw [Lib.size_eq, e] at h0; exact absurd h0 (by simp)) (by rw [← Lib.size_eq]; omega) (by rw [← Lib.size_eq]; omega)
      (fun j x hx => Lib.cells_of_row hblock cells.size j _ (by rw [List.take_of_length_le (by simp), hcl]; simp [Lib.byteCells, hx]))
    rw [← Lib.size_eq] at htext
    clear hcells hi
    go_enter Try.func68, Try.ntmps68
    go_wp2
    go_ret
    have b1 : Below w.heap.size w (w.alloc (.cells row 5)) := (Below.refl _ w).alloc (Nat.le_refl _) _
    have b2 : Below w.heap.size (w.alloc (.cells row 5)) ((w.alloc (.cells row 5)).setRow w.heap.size cells) := ⟨rfl, rfl, rfl, by simp, fun k hk => setRow_other _ _ _ _ (by omega)⟩
    exact ⟨rfl, Lib.below_freeze (b1.trans b2) (p := ⟨w.heap.size, 0, none⟩) (Nat.le_refl _) _⟩
end Go.Proofs.Ythifmfgnblecbaa

/- The methods of package vint's Reader, each by one contract: what it answers, and what is left. -/
namespace Go.Proofs.Ythifmfgnblecbaa
open Go.RowKit Go.Proofs.Ythifmfgnblecbaa.Vi

/-- The number that comes next, and what is left behind it. -/
def numF (r : ByteArray) : Option (Nat × ByteArray) :=
  match getL 0 r.data.toList with
  | none => none
  | some (v, m) => some (v, restB r m)
theorem numF_none {r : ByteArray} (h : numF r = none) : getL 0 r.data.toList = none := by
  unfold numF at h
  split at h
  · assumption
  · cases h
theorem numF_some {r r' : ByteArray} {v : Nat} (h : numF r = some (v, r')) : ∃ m, getL 0 r.data.toList = some (v, m) ∧ restB r m = r' := by
  unfold numF at h
  split at h
  · cases h
  · rename_i v' m he
    simp at h
    obtain ⟨rfl, rfl⟩ := h
    exact ⟨m, he, rfl⟩
theorem numF_bounds {r r' : ByteArray} {v : Nat} (h : numF r = some (v, r')) : v < 18446744073709551616 ∧ r'.size ≤ r.size := by
  obtain ⟨m, h1, rfl⟩ := numF_some h
  obtain ⟨h2, _⟩ := getL_bounds h1
  exact ⟨h2, by rw [restB_size]; omega⟩

/-- What Num answers, and what is left. -/
def numQ (r : ByteArray) (br : Bool) : Int × ByteArray × Bool :=
  if br then (0, r, true) else match numF r with
    | none => (0, ⟨#[]⟩, true)
    | some (v, r') => ((v : Int), r', false)
def smallQ (r : ByteArray) (br : Bool) (most : Int) : Int × ByteArray × Bool :=
  if br then (0, r, true) else match numF r with
    | none => (0, ⟨#[]⟩, true)
    | some (v, r') => if 0 ≤ most ∧ (v : Int) ≤ most then ((v : Int), r', false) else (0, ⟨#[]⟩, true)
def textQ (r : ByteArray) (br : Bool) : ByteArray × ByteArray × Bool :=
  if br then (⟨#[]⟩, r, true) else match numF r with
    | none => (⟨#[]⟩, ⟨#[]⟩, true)
    | some (v, r') => if v ≤ r'.size then (r'.extract 0 v, restB r' v, false) else (⟨#[]⟩, ⟨#[]⟩, true)
def endQ (r : ByteArray) (br : Bool) : Int := if br then 10 else if r.size = 0 then 0 else 10

theorem numQ_bounds {r r' : ByteArray} {br br' : Bool} {v : Int} (H : numQ r br = (v, r', br')) : 0 ≤ v ∧ v ≤ 18446744073709551615 ∧ r'.size ≤ r.size := by
  unfold numQ at H
  split at H
  · simp at H
    obtain ⟨rfl, rfl, rfl⟩ := H
    omega
  · split at H
    · simp at H
      obtain ⟨rfl, rfl, rfl⟩ := H
      exact ⟨by omega, by omega, Nat.zero_le _⟩
    · rename_i u r1 hf
      simp at H
      obtain ⟨rfl, rfl, rfl⟩ := H
      have := numF_bounds hf
      omega
end Go.Proofs.Ythifmfgnblecbaa

/- Small and Text of package vint's Reader. -/
namespace Go.Proofs.Ythifmfgnblecbaa
open Go.RowKit Go.Proofs.Ythifmfgnblecbaa.Vi

theorem below_drawn (w : World) (n : Nat) : Below w.heap.size w (w.drewN n) := ⟨rfl, rfl, rfl, Nat.le_refl _, fun _ _ => rfl⟩
theorem Took.drewN {b : Nat} {v : Value} {r : ByteArray} {br : Bool} {w w1 : World} (n : Nat) (hR : RA w1 b r br) (hB : But b w w1) : Took b v r br w (.returned v) (w1.drewN n) :=
  ⟨rfl, hR.below (below_drawn _ _), hB.trans (But.of (below_drawn _ _))⟩

theorem clone_is (s : ByteArray) (w : World) (hlim : s.size ≤ 100000) : Calls Try.prog 57 #[.string s] w fun e w' => e = .returned (.string s) ∧ Below w.heap.size w w' := by
  have hk := fun w => inner_clone s w hlim
  go_enter Try.func57, Try.ntmps57
  go_wp2_with (go_at_call 68; (with_reducible refine (hk _).mono ?_); rintro e w1 ⟨rfl, hB⟩)
  go_ret
  exact ⟨rfl, hB⟩

end Go.Proofs.Ythifmfgnblecbaa

/- Contracts of the methods of the document's Reader. -/
namespace Go.Proofs.Ythifmfgnblecbaa
open Go.RowKit Go.Proofs.Ythifmfgnblecbaa.Vi

/-- The three cells of the document's Reader in block d. -/
structure RB (w : World) (d : Nat) (S : ByteArray) (a : Nat) (bad : Bool) : Prop where
  c0 : w.cell? ⟨d, 0, none⟩ = some (.string S)
  c1 : w.cell? ⟨d, 1, none⟩ = some (.int .i64 (a : Int))
  c2 : w.cell? ⟨d, 2, none⟩ = some (.bool bad)
  f0 : w.frozen? ⟨d, 0, none⟩ = false
  f1 : w.frozen? ⟨d, 1, none⟩ = false
  f2 : w.frozen? ⟨d, 2, none⟩ = false
theorem RB.room {w : World} {d a : Nat} {S : ByteArray} {bad : Bool} (h : RB w d S a bad) : d < w.heap.size := World.block_lt_of_cell? w _ h.c0
theorem RB.but {w w' : World} {d b a : Nat} {S : ByteArray} {bad : Bool} (h : RB w d S a bad) (k : But b w w') (hd : d ≠ b) : RB w' d S a bad :=
  ⟨(k.cell (p := ⟨d, 0, none⟩) hd h.room).trans h.c0, (k.cell (p := ⟨d, 1, none⟩) hd h.room).trans h.c1, (k.cell (p := ⟨d, 2, none⟩) hd h.room).trans h.c2,
    (k.frozen (p := ⟨d, 0, none⟩) hd h.room).trans h.f0, (k.frozen (p := ⟨d, 1, none⟩) hd h.room).trans h.f1, (k.frozen (p := ⟨d, 2, none⟩) hd h.room).trans h.f2⟩
theorem RB.below {w w' : World} {d a : Nat} {S : ByteArray} {bad : Bool} (h : RB w d S a bad) (k : Below w.heap.size w w') : RB w' d S a bad :=
  ⟨(k.cell (p := ⟨d, 0, none⟩) h.room).trans h.c0, (k.cell (p := ⟨d, 1, none⟩) h.room).trans h.c1, (k.cell (p := ⟨d, 2, none⟩) h.room).trans h.c2,
    (k.frozen (p := ⟨d, 0, none⟩) h.room).trans h.f0, (k.frozen (p := ⟨d, 1, none⟩) h.room).trans h.f1, (k.frozen (p := ⟨d, 2, none⟩) h.room).trans h.f2⟩
theorem rb_keep {w w1 w2 : World} {d a : Nat} {S : ByteArray} {bad : Bool} (hb : Below w1.heap.size w1 w2) (h : (fun w' => w'.cell? ⟨d, 0, none⟩ = some (.string S) ∧ w'.cell? ⟨d, 1, none⟩ = some (.int .i64 (a : Int)) ∧ w'.cell? ⟨d, 2, none⟩ = some (.bool bad) ∧ w'.frozen? ⟨d, 0, none⟩ = false ∧ w'.frozen? ⟨d, 1, none⟩ = false ∧ w'.frozen? ⟨d, 2, none⟩ = false ∧ Below w.heap.size w w') w1) : (fun w' => w'.cell? ⟨d, 0, none⟩ = some (.string S) ∧ w'.cell? ⟨d, 1, none⟩ = some (.int .i64 (a : Int)) ∧ w'.cell? ⟨d, 2, none⟩ = some (.bool bad) ∧ w'.frozen? ⟨d, 0, none⟩ = false ∧ w'.frozen? ⟨d, 1, none⟩ = false ∧ w'.frozen? ⟨d, 2, none⟩ = false ∧ Below w.heap.size w w') w2 := by
  obtain ⟨h1, h2, h3, h4, h5, h6, h7⟩ := h
  have R := RB.below ⟨h1, h2, h3, h4, h5, h6⟩ hb
  exact ⟨R.c0, R.c1, R.c2, R.f0, R.f1, R.f2, h7.trans (hb.mono h7.size)⟩

/-- A method's answer, and what the document's reader is then. -/
def RTook (d : Nat) (v : Value) (S : ByteArray) (a : Nat) (bad : Bool) (w : World) (e : Ending) (w' : World) : Prop := e = .returned v ∧ RB w' d S a bad ∧ But d w w'

end Go.Proofs.Ythifmfgnblecbaa

/- The methods of the document's Reader, held against what is left of the text: the same answers as those of package vint's. -/
namespace Go.Proofs.Ythifmfgnblecbaa
open Go.RowKit Go.Proofs.Ythifmfgnblecbaa.Vi

/-- The document's reader of S at a, broken or not, has r left. -/
def Same (S : ByteArray) (a : Nat) (bad : Bool) (r : ByteArray) (br : Bool) : Prop := bad = br ∧ a ≤ S.size ∧ (br = false → r = restB S a) ∧ (br = true → r = ⟨#[]⟩)
/-- The document's reader lies in block d, reads S, and has r left. -/
def RS (w : World) (d : Nat) (S r : ByteArray) (br : Bool) : Prop := ∃ a bad, RB w d S a bad ∧ Same S a bad r br
/-- A method's answer, and what is left then. -/
def RDone (d : Nat) (v : Value) (S r : ByteArray) (br : Bool) (w : World) (e : Ending) (w' : World) : Prop := e = .returned v ∧ RS w' d S r br ∧ But d w w'
theorem RS.room {w : World} {d : Nat} {S r : ByteArray} {br : Bool} (h : RS w d S r br) : d < w.heap.size := by
  obtain ⟨a, bad, h, _⟩ := h; exact h.room
theorem RS.but {w w' : World} {d b : Nat} {S r : ByteArray} {br : Bool} (h : RS w d S r br) (k : But b w w') (hd : d ≠ b) : RS w' d S r br := by
  obtain ⟨a, bad, h, s⟩ := h; exact ⟨a, bad, h.but k hd, s⟩

theorem restB_list (S : ByteArray) (a : Nat) : (restB S a).data.toList = S.data.toList.drop a := by
  unfold restB
  simp [ByteArray.data_extract]
  exact List.take_of_length_le (by simp)
theorem list_inj {s t : ByteArray} (h : s.data.toList = t.data.toList) : s = t := ByteArray.ext (Array.toList_inj.1 h)
theorem restB_restB (S : ByteArray) (a m : Nat) : restB (restB S a) m = restB S (a + m) := by
  apply list_inj
  rw [restB_list, restB_list, restB_list, List.drop_drop]
theorem restB_take (S : ByteArray) (a n : Nat) : (restB S a).extract 0 n = S.extract a (a + n) := by
  apply list_inj
  have := restB_list S a
  simp [ByteArray.data_extract] at this ⊢
  rw [this]

theorem RB.spoil {w : World} {d a : Nat} {S : ByteArray} {bad : Bool} (h : RB w d S a bad) : RB (w.setCell ⟨d, 2, none⟩ (.bool true)) d S a true := by
  obtain ⟨c0, c1, c2, f0, f1, f2⟩ := h
  exact ⟨by simp [go_sem, c0], by simp [go_sem, c1], by simp [go_sem, c2], by simp [go_sem, f0], by simp [go_sem, f1], by simp [go_sem, f2]⟩

theorem RB.drawn {w : World} {d a : Nat} {S : ByteArray} {bad : Bool} (h : RB w d S a bad) (n : Nat) : RB (w.drewN n) d S a bad := h.below (below_drawn _ _)
theorem RB.moved {w : World} {d a : Nat} {S : ByteArray} {bad : Bool} (h : RB w d S a bad) (v : Nat) : RB (w.setCell ⟨d, 1, none⟩ (.int .i64 ((a : Int) + (v : Int)))) d S (a + v) bad := by
  obtain ⟨c0, c1, c2, f0, f1, f2⟩ := h
  exact ⟨by simp [go_sem, c0], by simp [go_sem, c1], by simp [go_sem, c2], by simp [go_sem, f0], by simp [go_sem, f1], by simp [go_sem, f2]⟩
theorem But.drawn {b : Nat} {w w1 : World} (h : But b w w1) (n : Nat) : But b w (w1.drewN n) := h.trans (But.of (below_drawn _ _))

/-- What the methods leave is no longer than what was there. -/
theorem smallQ_size {r r' : ByteArray} {br br' : Bool} {m v : Int} (H : smallQ r br m = (v, r', br')) : r'.size ≤ r.size := by
  unfold smallQ at H
  split at H
  · simp at H; obtain ⟨rfl, rfl, rfl⟩ := H; exact Nat.le_refl _
  · split at H
    · simp at H; obtain ⟨rfl, rfl, rfl⟩ := H; exact Nat.zero_le _
    · rename_i u r1 hf
      have := (numF_bounds hf).2
      split at H
      · simp at H; obtain ⟨rfl, rfl, rfl⟩ := H; exact this
      · simp at H; obtain ⟨rfl, rfl, rfl⟩ := H; exact Nat.zero_le _
theorem textQ_size {r r' : ByteArray} {br br' : Bool} {v : ByteArray} (H : textQ r br = (v, r', br')) : r'.size ≤ r.size := by
  unfold textQ at H
  split at H
  · simp at H; obtain ⟨rfl, rfl, rfl⟩ := H; exact Nat.le_refl _
  · split at H
    · simp at H; obtain ⟨rfl, rfl, rfl⟩ := H; exact Nat.zero_le _
    · rename_i u r1 hf
      have := (numF_bounds hf).2
      split at H
      · simp at H; obtain ⟨rfl, rfl, rfl⟩ := H; rw [restB_size]; omega
      · simp at H; obtain ⟨rfl, rfl, rfl⟩ := H; exact Nat.zero_le _
end Go.Proofs.Ythifmfgnblecbaa
