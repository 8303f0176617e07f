/- Contracts of the methods of package vint's Reader. -/
import Derived.Test.YtjckphmkhikpaaaVintGet
import Derived.Deep.QuietTactic
import Derived.BigQuiet
namespace Go.Proofs.Ytjckphmkhikpaaa
open Go.RowKit Go.Proofs.Ytjckphmkhikpaaa.Vi

/-- Of what was there block b alone may have turned. -/
structure But (b : Nat) (w w' : World) : Prop where
  os : w'.os = w.os
  tape : w'.tape = w.tape
  output : w'.output = w.output
  size : w.heap.size ≤ w'.heap.size
  block : ∀ k, k < w.heap.size → k ≠ b → w'.heap[k]? = w.heap[k]?
theorem But.refl (b : Nat) (w : World) : But b w w := ⟨rfl, rfl, rfl, Nat.le_refl _, fun _ _ _ => rfl⟩
theorem But.trans {b : Nat} {u v w : World} (h : But b u v) (k : But b v w) : But b u w :=
  ⟨k.os.trans h.os, k.tape.trans h.tape, k.output.trans h.output, Nat.le_trans h.size k.size, fun i hi hb => (k.block i (Nat.lt_of_lt_of_le hi h.size) hb).trans (h.block i hi hb)⟩
theorem But.of {b : Nat} {w w' : World} (h : Below w.heap.size w w') : But b w w' := ⟨h.os, h.tape, h.output, h.size, fun k hk _ => h.block k hk⟩
theorem But.drew {b : Nat} {u w : World} (h : But b u w) : But b u w.drew := ⟨h.os, h.tape, h.output, h.size, h.block⟩
theorem But.alloc {b : Nat} {u w : World} (h : But b u w) (o : Obj) : But b u (w.alloc o) := h.trans (But.of ((Below.refl _ w).alloc (Nat.le_refl _) o))
theorem But.setCell {b : Nat} {u w : World} (h : But b u w) (o : Nat) (v : Value) : But b u (w.setCell ⟨b, o, none⟩ v) :=
  h.trans ⟨rfl, rfl, rfl, by simp [World.setCell], fun k _ hb => Below.heap_setCell _ _ _ _ hb⟩
theorem But.below {b B : Nat} {w w' : World} (h : But b w w') (hb : B ≤ b) (hB : B ≤ w.heap.size) : Below B w w' := ⟨h.os, h.tape, h.output, h.size, fun k hk => h.block k (by omega) (by omega)⟩
theorem But.cell {b : Nat} {w w' : World} (h : But b w w') {p : Addr} (hp : p.block ≠ b) (hw : p.block < w.heap.size) : w'.cell? p = w.cell? p := World.cell?_of_block (w := w) (h.block p.block hw hp)
theorem But.frozen {b : Nat} {w w' : World} (h : But b w w') {p : Addr} (hp : p.block ≠ b) (hw : p.block < w.heap.size) : w'.frozen? p = w.frozen? p := World.frozen?_of_block (w := w) (h.block p.block hw hp)

/-- The two cells of a Reader in block b: what is left, and whether it is broken. -/
structure RA (w : World) (b : Nat) (r : ByteArray) (br : Bool) : Prop where
  c0 : w.cell? ⟨b, 0, none⟩ = some (.string r)
  c1 : w.cell? ⟨b, 1, none⟩ = some (.bool br)
  f0 : w.frozen? ⟨b, 0, none⟩ = false
  f1 : w.frozen? ⟨b, 1, none⟩ = false
theorem RA.room {w : World} {b : Nat} {r : ByteArray} {br : Bool} (h : RA w b r br) : b < w.heap.size := World.block_lt_of_cell? w _ h.c0
theorem RA.below {w w' : World} {b : Nat} {r : ByteArray} {br : Bool} (h : RA w b r br) (k : Below w.heap.size w w') : RA w' b r br :=
  ⟨(k.cell (p := ⟨b, 0, none⟩) h.room).trans h.c0, (k.cell (p := ⟨b, 1, none⟩) h.room).trans h.c1, (k.frozen (p := ⟨b, 0, none⟩) h.room).trans h.f0, (k.frozen (p := ⟨b, 1, none⟩) h.room).trans h.f1⟩
theorem RA.but {w w' : World} {b d : Nat} {r : ByteArray} {br : Bool} (h : RA w b r br) (k : But d w w') (hd : b ≠ d) : RA w' b r br :=
  ⟨(k.cell (p := ⟨b, 0, none⟩) hd h.room).trans h.c0, (k.cell (p := ⟨b, 1, none⟩) hd h.room).trans h.c1, (k.frozen (p := ⟨b, 0, none⟩) hd h.room).trans h.f0, (k.frozen (p := ⟨b, 1, none⟩) hd h.room).trans h.f1⟩

/-- A method's answer, and what the reader is then. -/
def Took (b : Nat) (v : Value) (r : ByteArray) (br : Bool) (w : World) (e : Ending) (w' : World) : Prop := e = .returned v ∧ RA w' b r br ∧ But b w w'

theorem makeFunc_run (fn : Fn) (first cap : Array Value) (w : World) : (Instr.makeFunc fn first cap).run Try.prog w = .ok (.func fn first cap) w := rfl
theorem getR_some {l : List UInt8} {v m : Nat} (h : getL 0 l = some (v, m)) : getR l 0 = ((v : Int), (m : Int), 0) := by
  unfold getR
  rw [if_neg (by omega)]
  show (match getL 0 l with | none => _ | some (v, m) => _) = _
  rw [h]; simp
theorem getR_none {l : List UInt8} (h : getL 0 l = none) : getR l 0 = (0, 0, 10) := by
  unfold getR
  rw [if_neg (by omega)]
  show (match getL 0 l with | none => _ | some (v, m) => _) = _
  rw [h]
theorem getL_bounds {l : List UInt8} {v m : Nat} (h : getL 0 l = some (v, m)) : v < 18446744073709551616 ∧ 1 ≤ m ∧ m ≤ l.length := by
  obtain ⟨h1, -, h3, rest, h4⟩ := getL_some l 0 v m (by omega) h
  refine ⟨h1, by rw [h3]; exact enc_len_pos v, ?_⟩
  rw [h4, h3, List.length_append]; omega
/-- What is left behind the first m bytes. -/
def restB (r : ByteArray) (m : Nat) : ByteArray := r.extract m r.size
theorem restB_size (r : ByteArray) (m : Nat) : (restB r m).size = r.size - m := by unfold restB; simp

set_option maxHeartbeats 400000 in
theorem number_some (b : Nat) (r r' : ByteArray) (v m : Nat) (w : World) (hr : r.size ≤ maxLen) (hg : Hid (getL 0 r.data.toList = some (v, m))) (hr' : Hid (restB r m = r')) (h : RA w b r false) :
    Calls Try.prog 86 #[.pointer (some ⟨b, 0, none⟩)] w (Took b (.tuple #[.int .u64 v, .bool true]) r' false w) := by
  have hk := fun w => get_is r 0 v m 0 w hr (by omega) (by omega) (Lib.hid (getR_some hg.out))
  obtain ⟨h1, h2, h3⟩ := getL_bounds hg.out
  have h4 : m ≤ r.size := by simpa using h3
  have hx : r.extract m r.size = r' := hr'.out
  clear hg hr' h3
  obtain ⟨c0, c1, f0, f1⟩ := h
  go_enter Try.func86, Try.ntmps86
  go_wp2_with (go_at_call 94; (with_reducible refine (hk _).mono ?_); rintro e w1 ⟨rfl, rfl⟩)
  go_ret2
  exact ⟨rfl, ⟨by simp [go_sem, c0], by simp [go_sem, c1], by simp [go_sem, f0], by simp [go_sem, f1]⟩, (But.refl _ _).setCell _ _⟩
theorem number_none (b : Nat) (r : ByteArray) (w : World) (hr : r.size ≤ maxLen) (hg : Hid (getL 0 r.data.toList = none)) (h : RA w b r false) :
    Calls Try.prog 86 #[.pointer (some ⟨b, 0, none⟩)] w (Took b (.tuple #[.int .u64 0, .bool false]) r false w) := by
  have h0 := h
  have hk := fun w => get_is r 0 0 0 10 w hr (by omega) (by omega) (Lib.hid (getR_none hg.out))
  clear hg
  obtain ⟨c0, c1, f0, f1⟩ := h
  go_enter Try.func86, Try.ntmps86
  go_wp2_with (go_at_call 94; (with_reducible refine (hk _).mono ?_); rintro e w1 ⟨rfl, rfl⟩)
  go_ret2
  exact ⟨rfl, h0, But.refl _ _⟩

theorem take_u64_some (b : Nat) (r r' : ByteArray) (x : Int) (w : World) (h : RA w b r false) (hk : Calls Try.prog 86 #[.pointer (some ⟨b, 0, none⟩)] w (Took b (.tuple #[.int .u64 x, .bool true]) r' false w)) :
    Calls Try.prog 100 #[.pointer (some ⟨b, 0, none⟩), .func (.func 86) #[.pointer (some ⟨b, 0, none⟩)] #[]] w (Took b (.int .u64 x) r' false w) := by
  obtain ⟨c0, c1, f0, f1⟩ := h
  go_enter Try.func100, Try.ntmps100
  go_wp2_with (go_at_call 86; (with_reducible refine hk.mono ?_); rintro e w1 ⟨rfl, hR, hB⟩)
  go_ret
  exact ⟨rfl, hR, hB⟩
theorem take_u64_none (b : Nat) (r r' : ByteArray) (x : Int) (w : World) (h : RA w b r false) (hk : Calls Try.prog 86 #[.pointer (some ⟨b, 0, none⟩)] w (Took b (.tuple #[.int .u64 x, .bool false]) r' false w)) :
    Calls Try.prog 100 #[.pointer (some ⟨b, 0, none⟩), .func (.func 86) #[.pointer (some ⟨b, 0, none⟩)] #[]] w (Took b (.int .u64 0) ⟨#[]⟩ true w) := by
  obtain ⟨c0, c1, f0, f1⟩ := h
  go_enter Try.func100, Try.ntmps100
  go_wp2_with (go_at_call 86; (with_reducible refine hk.mono ?_); rintro e w1 ⟨rfl, ⟨d0, d1, g0, g1⟩, hB⟩)
  go_ret
  exact ⟨rfl, ⟨by simp [go_sem, d0], by simp [go_sem, d1], by simp [go_sem, g0], by simp [go_sem, g1]⟩, (hB.setCell _ _).setCell _ _⟩
theorem take_int_some (b : Nat) (r r' : ByteArray) (x : Int) (c d : Nat) (w : World) (h : RA w b r false) (hk : Calls Try.prog 85 #[.pointer (some ⟨c, 0, none⟩), .pointer (some ⟨d, 0, none⟩)] w (Took b (.tuple #[.int .i64 x, .bool true]) r' false w)) :
    Calls Try.prog 84 #[.pointer (some ⟨b, 0, none⟩), .func (.func 85) #[] #[.pointer (some ⟨c, 0, none⟩), .pointer (some ⟨d, 0, none⟩)]] w (Took b (.int .i64 x) r' false w) := by
  obtain ⟨c0, c1, f0, f1⟩ := h
  go_enter Try.func84, Try.ntmps84
  go_wp2_with (go_at_call 85; (with_reducible refine hk.mono ?_); rintro e w1 ⟨rfl, hR, hB⟩)
  go_ret
  exact ⟨rfl, hR, hB⟩
theorem take_int_none (b : Nat) (r r' : ByteArray) (x : Int) (c d : Nat) (w : World) (h : RA w b r false) (hk : Calls Try.prog 85 #[.pointer (some ⟨c, 0, none⟩), .pointer (some ⟨d, 0, none⟩)] w (Took b (.tuple #[.int .i64 x, .bool false]) r' false w)) :
    Calls Try.prog 84 #[.pointer (some ⟨b, 0, none⟩), .func (.func 85) #[] #[.pointer (some ⟨c, 0, none⟩), .pointer (some ⟨d, 0, none⟩)]] w (Took b (.int .i64 0) ⟨#[]⟩ true w) := by
  obtain ⟨c0, c1, f0, f1⟩ := h
  go_enter Try.func84, Try.ntmps84
  go_wp2_with (go_at_call 85; (with_reducible refine hk.mono ?_); rintro e w1 ⟨rfl, ⟨d0, d1, g0, g1⟩, hB⟩)
  go_ret
  exact ⟨rfl, ⟨by simp [go_sem, d0], by simp [go_sem, d1], by simp [go_sem, g0], by simp [go_sem, g1]⟩, (hB.setCell _ _).setCell _ _⟩
theorem take_str_some (b : Nat) (r r' : ByteArray) (x : ByteArray) (w : World) (h : RA w b r false) (hk : Calls Try.prog 96 #[.pointer (some ⟨b, 0, none⟩)] w (Took b (.tuple #[.string x, .bool true]) r' false w)) :
    Calls Try.prog 95 #[.pointer (some ⟨b, 0, none⟩), .func (.func 96) #[.pointer (some ⟨b, 0, none⟩)] #[]] w (Took b (.string x) r' false w) := by
  obtain ⟨c0, c1, f0, f1⟩ := h
  go_enter Try.func95, Try.ntmps95
  go_wp2_with (go_at_call 96; (with_reducible refine hk.mono ?_); rintro e w1 ⟨rfl, hR, hB⟩)
  go_ret
  exact ⟨rfl, hR, hB⟩
theorem take_str_none (b : Nat) (r r' : ByteArray) (x : ByteArray) (w : World) (h : RA w b r false) (hk : Calls Try.prog 96 #[.pointer (some ⟨b, 0, none⟩)] w (Took b (.tuple #[.string x, .bool false]) r' false w)) :
    Calls Try.prog 95 #[.pointer (some ⟨b, 0, none⟩), .func (.func 96) #[.pointer (some ⟨b, 0, none⟩)] #[]] w (Took b (.string ⟨#[]⟩) ⟨#[]⟩ true w) := by
  obtain ⟨c0, c1, f0, f1⟩ := h
  go_enter Try.func95, Try.ntmps95
  go_wp2_with (go_at_call 96; (with_reducible refine hk.mono ?_); rintro e w1 ⟨rfl, ⟨d0, d1, g0, g1⟩, hB⟩)
  go_ret
  exact ⟨rfl, ⟨by simp [go_sem, d0], by simp [go_sem, d1], by simp [go_sem, g0], by simp [go_sem, g1]⟩, (hB.setCell _ _).setCell _ _⟩
theorem num_nil (w : World) : Calls Try.prog 98 #[.pointer none] w fun e w' => e = .returned (.int .u64 0) ∧ w = w' := by
  have hmf := makeFunc_run
  go_enter Try.func98, Try.ntmps98
  go_wp2
  go_ret
  exact ⟨rfl, rfl⟩
theorem num_broken (b : Nat) (r : ByteArray) (w : World) (h : RA w b r true) : Calls Try.prog 98 #[.pointer (some ⟨b, 0, none⟩)] w (Took b (.int .u64 0) r true w) := by
  have hmf := makeFunc_run
  have h0 := h
  obtain ⟨c0, c1, f0, f1⟩ := h
  go_enter Try.func98, Try.ntmps98
  go_wp2
  go_ret
  exact ⟨rfl, h0, But.refl _ _⟩
theorem num_some (b : Nat) (r r' : ByteArray) (v m : Nat) (w : World) (hr : r.size ≤ maxLen) (hg : Hid (getL 0 r.data.toList = some (v, m))) (hr' : Hid (restB r m = r')) (h : RA w b r false) :
    Calls Try.prog 98 #[.pointer (some ⟨b, 0, none⟩)] w (Took b (.int .u64 v) r' false w) := by
  have hmf := makeFunc_run
  have hk := take_u64_some b r r' v w h (number_some b r r' v m w hr hg hr' h)
  obtain ⟨c0, c1, f0, f1⟩ := h
  go_enter Try.func98, Try.ntmps98
  go_wp2_with (go_at_call 100; (with_reducible refine hk.mono ?_); rintro e w1 ⟨rfl, hR, hB⟩)
  go_ret
  exact ⟨rfl, hR, hB⟩
theorem num_none (b : Nat) (r : ByteArray) (w : World) (hr : r.size ≤ maxLen) (hg : Hid (getL 0 r.data.toList = none)) (h : RA w b r false) :
    Calls Try.prog 98 #[.pointer (some ⟨b, 0, none⟩)] w (Took b (.int .u64 0) ⟨#[]⟩ true w) := by
  have hmf := makeFunc_run
  have hk := take_u64_none b r r 0 w h (number_none b r w hr hg h)
  obtain ⟨c0, c1, f0, f1⟩ := h
  go_enter Try.func98, Try.ntmps98
  go_wp2_with (go_at_call 100; (with_reducible refine hk.mono ?_); rintro e w1 ⟨rfl, hR, hB⟩)
  go_ret
  exact ⟨rfl, hR, hB⟩
end Go.Proofs.Ytjckphmkhikpaaa
