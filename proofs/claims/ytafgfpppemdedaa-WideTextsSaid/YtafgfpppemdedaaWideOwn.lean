/- Rows of bytes that a call has made: kept through calls that write above, grown by the closure of Text, turned round by slices.Reverse. -/
import Derived.Test.YtafgfpppemdedaaWideDiv
import Derived.Test.YtafgfpppemdedaaWideDec
import Derived.Laws.AppendOwn
import Derived.Laws.IdiomStrings
import Derived.OwnWalk
import Derived.Handy
import Derived.BigRegion
namespace Go.Proofs.Ytafgfpppemdedaa
open Go.RowKit Go.Proofs.Ytafgfpppemdedaa.Wd

theorem infoB : (Try.prog.info? 5).map (fun i => (i.zero, i.size, i.bytes)) = some (some (.int .u8 0), 1, 1) := by kernel_rfl

theorem ownsRow_slice {w : World} {base size n : Nat} {e : TypeId} {v : Value} {xs : List Value} (h : w.ownsRow base e size v n xs) : ∃ a m c, v = .slice a m c := by
  rcases h.2 with ⟨h, _⟩ | ⟨g, cap, cur, h, _⟩
  · exact ⟨_, _, _, h⟩
  · exact ⟨_, _, _, h⟩
theorem ownsRow_below {w w' : World} {base size n : Nat} {e : TypeId} {v : Value} {xs : List Value} (h : w.ownsRow base e size v n xs) (hb : Below w.heap.size w w') : w'.ownsRow base e size v n xs := by
  obtain ⟨h1, h2⟩ := h
  refine ⟨h1, ?_⟩
  rcases h2 with h2 | ⟨g, cap, cur, hv, hg, hh, r⟩
  · exact Or.inl h2
  · have hlt : g < w.heap.size := (Array.getElem?_eq_some_iff.1 hh).1
    exact Or.inr ⟨g, cap, cur, hv, hg, by rw [hb.block g hlt]; exact hh, r⟩

/-- A byte as a cell holds it. -/
def bcellv (c : UInt8) : Value := .int .u8 (c.toNat : Int)

/-- The variable in block b holds a slice that the call has made, of the bytes xs. -/
structure TextAt (w : World) (b : Nat) (v : Value) (xs : List UInt8) : Prop where
  cell : w.cell? ⟨b, 0, none⟩ = some v
  free : w.frozen? ⟨b, 0, none⟩ = false
  own : w.ownsRow (b + 1) 5 1 v xs.length (xs.map bcellv)
theorem TextAt.room {w : World} {b : Nat} {v : Value} {xs : List UInt8} (h : TextAt w b v xs) : b < w.heap.size := World.block_lt_of_cell? w _ h.cell
theorem TextAt.below {w w' : World} {b : Nat} {v : Value} {xs : List UInt8} (h : TextAt w b v xs) (hb : Below w.heap.size w w') : TextAt w' b v xs :=
  ⟨(hb.cell (p := ⟨b, 0, none⟩) h.room).trans h.cell, (hb.frozen (p := ⟨b, 0, none⟩) h.room).trans h.free, ownsRow_below h.own hb⟩

/-- What the closure of Text leaves: one byte more. -/
def PutDone (b : Nat) (xs : List UInt8) (c : UInt8) (w : World) (e : Ending) (w' : World) : Prop := e = .returned (.tuple #[]) ∧ ∃ v', TextAt w' b v' (xs ++ [c]) ∧ Below b w w'

set_option maxHeartbeats 400000 in
theorem put_any (b : Nat) (v : Value) (xs : List UInt8) (c : UInt8) (z : Int) (w : World) (hz : z = (c.toNat : Int)) (h : TextAt w b v xs) (hl : xs.length ≤ 1000) :
    Calls Try.prog 41 #[.int .u8 z, .pointer (some ⟨b, 0, none⟩)] w (PutDone b xs c w) := by
  obtain ⟨i0, hi, hz0, hz1, hz2⟩ := info_parts infoB
  have hroom := h.room
  obtain ⟨h1, h2, h3⟩ := h
  subst hz
  go_enter Try.func41, Try.ntmps41
  go_wp2_with (first
    | (at_builtin; refine wpList_append_own _ rfl _ _ 54 rfl (b + 1) 5 i0 (.int .u8 0) 1 1 Try.underlying54 hi hz0 hz1 hz2 rfl (by decide) _ _ _ rfl (h3.alloc _) ⟨w.heap.size, 0, none⟩ 1 1 [bcellv c] rfl rfl ?c1 ?c2 ?c3 ?c4 ?c5 ?_))
  case c1 =>
    intro j u hj
    match j, hj with
    | 0, hj => simp at hj; subst hj; simp [Addr.add, bcellv]
  case c2 => intro u hu; simp at hu; subst hu; rfl
  case c3 => unfold maxLen; omega
  case c4 => omega
  case c5 => simp; omega
  intro v' w3 hown3 hgrow _
  have hne : ∀ k, v.ownBlock = some k → b + 1 ≤ k := fun k hk => (h3.lt k hk).1
  have hnb : some b ≠ v.ownBlock := fun e => by have := hne b e.symm; omega
  have g1 : w3.cell? ⟨b, 0, none⟩ = some v := (World.cell?_of_block (hgrow.block b (by simp; omega) hnb)).trans (by simp [go_sem, h1, hroom])
  have g2 : w3.frozen? ⟨b, 0, none⟩ = false := (World.frozen?_of_block (hgrow.block b (by simp; omega) hnb)).trans (by simp [go_sem, h2, hroom])
  have hB : Below b w w3 := ((Below.refl b w).alloc (by omega) _).grown hgrow (by simp; omega) (fun k hk => by have := hne k hk; omega)
  clear hgrow h1 h2 h3 hne hnb
  obtain ⟨ad, m, cp, rfl⟩ := ownsRow_slice hown3
  have HO := Lib.hid hown3
  clear hown3
  go_wp2
  go_returns
  refine ⟨rfl, .slice ad m cp, ⟨?_, ?_, ?_⟩, hB.setCell (Nat.le_refl _) _⟩
  · simp [go_sem, g1]
  · simp [go_sem, g2]
  · have := HO.out
    simp only [List.length_append, List.map_append, List.length_cons, List.length_nil, List.map_cons, List.map_nil]
    exact ownsRow_setCell_below this (by simp) _

/-- Block g holds n bytes, the p-th f p, and they may be written. -/
def BytesFn (w : World) (g n : Nat) (f : Nat → UInt8) : Prop := ∀ p, p < n → w.cell? ⟨g, p, none⟩ = some (.int .u8 ((f p).toNat : Int)) ∧ w.frozen? ⟨g, p, none⟩ = false
def upd (f : Nat → UInt8) (p : Nat) (c : UInt8) : Nat → UInt8 := fun q => if q = p then c else f q
theorem BytesFn.stored {w : World} {g n : Nat} {f : Nat → UInt8} (h : BytesFn w g n f) (p : Nat) (hp : p < n) (c : UInt8) : BytesFn (w.setCell ⟨g, p, none⟩ (.int .u8 (c.toNat : Int))) g n (upd f p c) := by
  intro q hq
  refine ⟨?_, by simp [go_sem, (h q hq).2]⟩
  unfold upd
  by_cases e : q = p
  · subst e
    rw [if_pos rfl]; simp [go_sem, (h q hq).1]
  · rw [if_neg e, World.cell?_setCell_other]
    · exact (h q hq).1
    · intro e2; exact e (congrArg Addr.off e2).symm
theorem BytesFn.drew {w : World} {g n : Nat} {f : Nat → UInt8} (h : BytesFn w g n f) : BytesFn w.drew g n f := fun p hp => h p hp
theorem BytesFn.room {w : World} {g n : Nat} {f : Nat → UInt8} (h : BytesFn w g n f) (hn : 0 < n) : g < w.heap.size := World.block_lt_of_cell? w _ (h 0 hn).1

/-- The first k and the last k bytes have changed places. -/
def Turned (f h : Nat → UInt8) (n k : Nat) : Prop := ∀ p, p < n → h p = if p < k ∨ n - 1 - k < p then f (n - 1 - p) else f p
theorem Turned.start (f : Nat → UInt8) (n : Nat) : Turned f f n 0 := fun p hp => by rw [if_neg (by omega)]
theorem Turned.next {f h : Nat → UInt8} {n k : Nat} (t : Turned f h n k) (hk : 2 * k + 1 < n) : Turned f (upd (upd h k (h (n - 1 - k))) (n - 1 - k) (h k)) n (k + 1) := by
  intro p hp
  have t1 := t k (by omega)
  have t2 := t (n - 1 - k) (by omega)
  rw [if_neg (by omega)] at t1 t2
  unfold upd
  by_cases e1 : p = n - 1 - k
  · rw [if_pos e1, if_pos (by omega), t1]; congr 1; omega
  · rw [if_neg e1]
    by_cases e2 : p = k
    · rw [if_pos e2, if_pos (by omega), t2]; congr 1; omega
    · rw [if_neg e2, t p hp]
      by_cases e3 : p < k ∨ n - 1 - k < p
      · rw [if_pos e3, if_pos (by omega)]
      · rw [if_neg e3, if_neg (by omega)]
theorem Turned.done {f h : Nat → UInt8} {n k : Nat} (t : Turned f h n k) (hk : n ≤ 2 * k + 1) (p : Nat) (hp : p < n) : h p = f (n - 1 - p) := by
  rw [t p hp]
  split
  · rfl
  · congr 1; omega

set_option maxHeartbeats 1000000 in
theorem reverse_any (g n cap : Nat) (f : Nat → UInt8) (w : World) (hn : 0 < n) (hn2 : n ≤ 1000) (h : BytesFn w g n f) :
    Calls Try.prog 44 #[.slice (some ⟨g, 0, none⟩) n cap] w fun e w' => e = .returned (.tuple #[]) ∧ BytesFn w' g n (fun p => f (n - 1 - p)) ∧ Below g w w' := by
  have HB := Lib.hid h
  have hroom := h.room hn
  clear h
  go_enter Try.func44, Try.ntmps44
  go_wp2
  go_loopw [2, 3] (fun i j wr => ∃ (k : Nat) (h : Nat → UInt8), 2 * k ≤ n ∧ i = .int .i64 (k : Int) ∧ j = .int .i64 ((n : Int) - 1 - (k : Int)) ∧ BytesFn wr g n h ∧ Turned f h n k ∧ Below g w wr) (fun i _ _ => n - (intOf i).toNat)
  case atStart => exact ⟨0, f, by omega, rfl, by simp, HB.out, Turned.start f n, Below.refl _ _⟩
  case round =>
    obtain ⟨k, h, hk, rfl, rfl, hB, hT, hbel⟩ := hrel
    by_cases hlt : 2 * k + 1 < n
    · obtain ⟨x, hx⟩ : ∃ x, h k = x := ⟨_, rfl⟩
      obtain ⟨y, hy⟩ : ∃ y, h (n - 1 - k) = y := ⟨_, rfl⟩
      have c1 := (hB k (by omega)).1
      have c2 := (hB (n - 1 - k) (by omega)).1
      have f1 := (hB k (by omega)).2
      have f2 := (hB (n - 1 - k) (by omega)).2
      rw [hx] at c1
      rw [hy] at c2
      have e1 : ((n : Int) - 1 - (k : Int)).toNat = n - 1 - k := by omega
      have e2 : (0 : Int) ≤ (n : Int) - 1 - (k : Int) := by omega
      have e3 : (n : Int) - 1 - (k : Int) < (n : Int) := by omega
      have e4 : (k : Int) < (n : Int) := by omega
      have e5 : (k : Int) < (n : Int) - 1 - (k : Int) := by omega
      have HH := Lib.hid hB
      have HT := Lib.hid hT
      have hX := Lib.hid hx
      have hY := Lib.hid hy
      clear hB hT hx hy
      go_wp2_with fail
      go_region
      all_goals
        go_wp2
        go_roundw
        case rel =>
          have hn' := HT.out.next hlt
          rw [hX.out, hY.out] at hn'
          exact ⟨k + 1, _, by omega, by go_num, by go_num, ((HH.out.stored k (by omega) y).stored (n - 1 - k) (by omega) x).drew, hn', ((hbel.setCell (Nat.le_refl _) _).setCell (Nat.le_refl _) _).drew⟩
        case measure => simp [intOf]; omega
    · have e5 : ¬ (k : Int) < (n : Int) - 1 - (k : Int) := by omega
      have HH := Lib.hid hB
      have HT := Lib.hid hT
      clear hB hT
      go_wp2
      go_returns
      exact ⟨rfl, fun p hp => by
        show wr.cell? _ = some (.int .u8 ((f (n - 1 - p)).toNat : Int)) ∧ _
        rw [← HT.out.done (by omega) p hp]; exact HH.out p hp, hbel⟩
end Go.Proofs.Ytafgfpppemdedaa
