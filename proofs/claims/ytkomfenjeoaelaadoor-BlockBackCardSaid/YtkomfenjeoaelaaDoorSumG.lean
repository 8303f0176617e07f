/- Joined: CrcMath, CrcBits, SumFns, SumRef. -/
import Derived.WalkKit
import Derived.Handy
import Derived.Below
import Derived.Lib.Hide
import Derived.Laws.BitsAllLaws
import Derived.Test.YtkomfenjeoaelaaDoorProg
import Derived.Outline
/- Plain mathematics of CRC-32C over BitVec 32: the step, its linearity and injectivity, the table of four steps, the state after a list of bytes, and what turning one byte or up to 32 bits in a row does to it. It imports nothing of the program. -/
namespace Go.Proofs.YtkomfenjeoaelaaDoor
namespace Crc

/-- One step: shifted right by one, with the polynomial if the number was odd. -/
def step (c : BitVec 32) : BitVec 32 := (c >>> 1) ^^^ (if c.getLsbD 0 then 0x82f63b78#32 else 0#32)
/-- So many steps. -/
def steps : Nat → BitVec 32 → BitVec 32
  | 0, c => c
  | n + 1, c => steps n (step c)

theorem pick_xor (x y : Bool) (p : BitVec 32) : (if (x ^^ y) then p else 0#32) = (if x then p else 0#32) ^^^ (if y then p else 0#32) := by
  cases x <;> cases y <;> simp
theorem step_xor (a b : BitVec 32) : step (a ^^^ b) = step a ^^^ step b := by
  unfold step
  rw [BitVec.ushiftRight_xor_distrib, BitVec.getLsbD_xor, pick_xor]
  ac_rfl
theorem steps_xor (n : Nat) : ∀ a b : BitVec 32, steps n (a ^^^ b) = steps n a ^^^ steps n b := by
  induction n with
  | zero => intro a b; rfl
  | succ n ih => intro a b; show steps n _ = _; rw [step_xor, ih]; rfl
theorem step_zero : step 0#32 = 0#32 := by decide
theorem steps_zero (n : Nat) : steps n 0#32 = 0#32 := by
  induction n with
  | zero => rfl
  | succ n ih => show steps n (step _) = _; rw [step_zero, ih]
theorem steps_add (m n : Nat) : ∀ c, steps (m + n) c = steps n (steps m c) := by
  induction m with
  | zero => intro c; rw [Nat.zero_add]; rfl
  | succ m ih => intro c; rw [Nat.succ_add]; exact ih (step c)
theorem steps_succ' (n : Nat) (c : BitVec 32) : steps (n + 1) c = step (steps n c) := steps_add n 1 c

theorem step_ne (c : BitVec 32) (h : c ≠ 0#32) : step c ≠ 0#32 := by
  intro e
  apply h
  unfold step at e
  have hb : c.getLsbD 0 = false := by
    have := congrArg (fun x => x.getLsbD 31) e
    cases hc : c.getLsbD 0
    · rfl
    · simp [hc] at this
  rw [hb] at e
  simp only [Bool.false_eq_true, if_false, BitVec.xor_zero] at e
  have h2 : ∀ i, i < 31 → c.getLsbD (i + 1) = false := by
    intro i hi
    have := congrArg (fun x => x.getLsbD i) e
    simpa [Nat.add_comm] using this
  apply BitVec.eq_of_getLsbD_eq
  intro i hi
  simp only [BitVec.getLsbD_zero]
  cases i with
  | zero => exact hb
  | succ i => exact h2 i (by omega)
theorem steps_ne (n : Nat) : ∀ c : BitVec 32, c ≠ 0#32 → steps n c ≠ 0#32 := by
  induction n with
  | zero => intro c h; exact h
  | succ n ih => intro c h; exact ih _ (step_ne c h)

theorem step_even (y : BitVec 32) (h : y.getLsbD 0 = false) : step y = y >>> 1 := by
  unfold step; rw [h]; simp
/-- What four steps make of each number below 16. -/
def tab : List Nat := [0, 274646895, 549293790, 820201905, 1098587580, 1361435347, 1640403810, 1905808397, 2197175160, 2460548119, 2722870694, 2987750089, 3280807620, 3553878443, 3811616794, 4084100981]
def tabv (n : Nat) : BitVec 32 := BitVec.ofNat 32 (tab.getD n 0)
theorem tabv_toNat (n : Nat) : (tabv n).toNat = tab.getD n 0 := by
  unfold tabv
  by_cases h : n < 16
  · have : ∀ i : Fin 16, (BitVec.ofNat 32 (tab.getD i.val 0)).toNat = tab.getD i.val 0 := by decide +kernel
    exact this ⟨n, h⟩
  · have e : tab.getD n 0 = 0 := by
      rw [List.getD_eq_getElem?_getD, List.getElem?_eq_none (by show 16 ≤ n; omega)]; rfl
    rw [e]; rfl
theorem four_small : ∀ n : Fin 16, steps 4 (BitVec.ofNat 32 n.val) = tabv n.val := by decide +kernel
theorem four_high (x : BitVec 32) : steps 4 ((x >>> 4) <<< 4) = x >>> 4 := by
  show step (step (step (step _))) = _
  rw [step_even (x >>> 4 <<< 4) (by simp), step_even (x >>> 4 <<< 4 >>> 1) (by simp), step_even (x >>> 4 <<< 4 >>> 1 >>> 1) (by simp), step_even (x >>> 4 <<< 4 >>> 1 >>> 1 >>> 1) (by simp)]
  apply BitVec.eq_of_getLsbD_eq
  intro i hi
  simp only [BitVec.getLsbD_ushiftRight, BitVec.getLsbD_shiftLeft]
  by_cases h : 4 + i < 32
  · have h1 : decide (1 + (1 + (1 + (1 + i))) < 32) = true := by simp; omega
    have h2 : decide (1 + (1 + (1 + (1 + i))) < 4) = false := by simp; omega
    rw [h1, h2]; simp; congr 1; omega
  · have h1 : decide (1 + (1 + (1 + (1 + i))) < 32) = false := by simp; omega
    rw [h1, BitVec.getLsbD_of_ge x (4 + i) (by omega)]; simp
theorem parts4 (c : BitVec 32) : c = ((c >>> 4) <<< 4) ^^^ (c &&& 15#32) := by
  apply BitVec.eq_of_getLsbD_eq
  intro i hi
  simp only [BitVec.getLsbD_xor, BitVec.getLsbD_ushiftRight, BitVec.getLsbD_shiftLeft, BitVec.getLsbD_and]
  have h15 : ∀ j : Fin 32, (15#32).getLsbD j.val = decide (j.val < 4) := by decide +kernel
  rw [h15 ⟨i, hi⟩]
  by_cases h : i < 4
  · simp [h]
  · have e : 4 + (i - 4) = i := by omega
    simp [h, e, hi]
theorem four (c : BitVec 32) : steps 4 c = (c >>> 4) ^^^ tabv (c &&& 15#32).toNat := by
  have hlt : (c &&& 15#32).toNat < 16 := by
    rw [BitVec.toNat_and]; exact Nat.lt_succ_of_le Nat.and_le_right
  have hs : steps 4 (c &&& 15#32) = tabv (c &&& 15#32).toNat := by
    simpa only [BitVec.ofNat_toNat, BitVec.setWidth_eq] using four_small ⟨_, hlt⟩
  have := congrArg (steps 4) (parts4 c)
  rw [steps_xor, four_high, hs] at this
  exact this

/-- A byte as a number of 32 bits. -/
def w8 (b : UInt8) : BitVec 32 := b.toBitVec.setWidth 32
theorem w8_toNat (b : UInt8) : (w8 b).toNat = b.toNat := by
  unfold w8
  rw [BitVec.toNat_setWidth]
  have := b.toNat_lt
  exact Nat.mod_eq_of_lt (by show b.toNat < _; omega)
theorem w8_xor (a b : UInt8) : w8 (a ^^^ b) = w8 a ^^^ w8 b := by
  unfold w8; simp
theorem w8_ne (b : UInt8) (h : b ≠ 0) : w8 b ≠ 0#32 := by
  intro e
  apply h
  have := congrArg BitVec.toNat e
  rw [w8_toNat] at this
  exact UInt8.toNat_inj.1 this
/-- The state behind one byte more; behind a list of bytes. -/
def stB (c : BitVec 32) (b : UInt8) : BitVec 32 := steps 8 (c ^^^ w8 b)
def st (c : BitVec 32) (l : List UInt8) : BitVec 32 := l.foldl stB c
theorem stB_xor (c d : BitVec 32) (b : UInt8) : stB (c ^^^ d) b = stB c b ^^^ steps 8 d := by
  unfold stB; rw [← steps_xor]; congr 1; ac_rfl
theorem stB_two (c : BitVec 32) (b : UInt8) : stB c b = steps 4 (steps 4 (c ^^^ w8 b)) := by
  unfold stB; rw [← steps_add]
theorem st_append (c : BitVec 32) (a b : List UInt8) : st c (a ++ b) = st (st c a) b := by unfold st; rw [List.foldl_append]
theorem st_snoc (c : BitVec 32) (a : List UInt8) (b : UInt8) : st c (a ++ [b]) = stB (st c a) b := by rw [st_append]; rfl
theorem st_xor (l : List UInt8) : ∀ c d : BitVec 32, st (c ^^^ d) l = st c l ^^^ steps (8 * l.length) d := by
  induction l with
  | nil => intro c d; rfl
  | cons b l ih =>
    intro c d
    show st (stB (c ^^^ d) b) l = st (stB c b) l ^^^ _
    rw [stB_xor, ih, ← steps_add, List.length_cons, Nat.mul_succ, Nat.add_comm]
theorem st_set (x : UInt8) : ∀ (l : List UInt8) (q : Nat) (h : q < l.length) (c : BitVec 32),
    st c (l.set q (l[q] ^^^ x)) = st c l ^^^ steps (8 * (l.length - q)) (w8 x) := by
  intro l
  induction l with
  | nil => intro q h; simp at h
  | cons b l ih =>
    intro q h c
    cases q with
    | zero =>
      show st (stB c (b ^^^ x)) l = st (stB c b) l ^^^ _
      rw [show stB c (b ^^^ x) = stB c b ^^^ steps 8 (w8 x) by unfold stB; rw [w8_xor, ← steps_xor]; congr 1; ac_rfl]
      rw [st_xor, ← steps_add, Nat.sub_zero, List.length_cons, Nat.mul_succ, Nat.add_comm]
    | succ q =>
      show st (stB c b) (l.set q (l[q]'(by simpa using h) ^^^ x)) = st (stB c b) l ^^^ _
      rw [ih q (by simpa using h)]
      simp

/-- The checksum; that of what stands behind a text of checksum c. -/
def crc (l : List UInt8) : BitVec 32 := ~~~ (st 4294967295#32 l)
def ext (c : BitVec 32) (l : List UInt8) : BitVec 32 := ~~~ (st (~~~ c) l)
theorem crc_nil : crc [] = 0#32 := by decide
theorem ext_zero (l : List UInt8) : ext 0#32 l = crc l := by unfold ext crc; congr 1
theorem ext_crc (a b : List UInt8) : ext (crc a) b = crc (a ++ b) := by
  unfold ext crc; rw [BitVec.not_not, st_append]
theorem ext_ext (c : BitVec 32) (a b : List UInt8) : ext (ext c a) b = ext c (a ++ b) := by
  unfold ext; rw [BitVec.not_not, st_append]
theorem ext_nil (c : BitVec 32) : ext c [] = c := by
  show ~~~ (~~~ c) = c; rw [BitVec.not_not]
theorem not_inj {a b : BitVec 32} (h : ~~~ a = ~~~ b) : a = b := by
  have := congrArg (fun x => ~~~ x) h
  simpa [BitVec.not_not] using this
theorem xor_ne {a d : BitVec 32} (h : d ≠ 0#32) : a ^^^ d ≠ a := by
  intro e
  apply h
  have := congrArg (fun x => a ^^^ x) e
  simpa [← BitVec.xor_assoc] using this
theorem crc_turn (x : UInt8) (hx : x ≠ 0) (l : List UInt8) (q : Nat) (h : q < l.length) : crc (l.set q (l[q] ^^^ x)) ≠ crc l := by
  intro e
  have := not_inj e
  rw [st_set] at this
  exact xor_ne (steps_ne _ _ (w8_ne x hx)) this

/-- The first k of the bits of w. -/
def low (w : BitVec 32) : Nat → BitVec 32
  | 0 => 0#32
  | k + 1 => low w k ^^^ (if w.getLsbD k then BitVec.twoPow 32 k else 0#32)
theorem low_bit (w : BitVec 32) (k i : Nat) (hi : i < 32) : (low w k).getLsbD i = (decide (i < k) && w.getLsbD i) := by
  induction k with
  | zero => simp [low]
  | succ k ih =>
    unfold low
    rw [BitVec.getLsbD_xor, ih]
    by_cases h : i = k
    · subst h
      cases hw : w.getLsbD i <;> simp [hi]
    · have e1 : decide (i < k + 1) = decide (i < k) := by congr 1; simp; omega
      rw [e1]
      have hk : (if w.getLsbD k = true then BitVec.twoPow 32 k else 0#32).getLsbD i = false := by
        split
        · rw [BitVec.getLsbD_twoPow]; simp; omega
        · simp
      rw [hk, Bool.xor_false]
theorem low_all (w : BitVec 32) : low w 32 = w := by
  apply BitVec.eq_of_getLsbD_eq
  intro i hi
  rw [low_bit w 32 i hi]; simp [hi]
theorem one_later : ∀ i : Fin 32, steps 32 (BitVec.twoPow 32 i.val) = steps (32 - i.val) 1#32 := by decide +kernel
theorem bit_first : ∀ r : Fin 8, steps r.val (w8 (UInt8.ofNat (2 ^ r.val))) = 1#32 := by decide +kernel

/-- What the turned bits up to the k-th make of the state. -/
def turned (w : BitVec 32) (m n k : Nat) : BitVec 32 := steps (8 * m - n - 32) (steps 32 (low w k))
theorem turned_zero (w : BitVec 32) (m n : Nat) : turned w m n 0 = 0#32 := by unfold turned low; rw [steps_zero, steps_zero]
theorem turned_skip (w : BitVec 32) (m n k : Nat) (h : w.getLsbD k = false) : turned w m n (k + 1) = turned w m n k := by
  unfold turned; rw [show low w (k + 1) = low w k by rw [low, h]; simp]
theorem turned_bit (w : BitVec 32) (m n k : Nat) (hk : k < 32) (hn : n + 32 ≤ 8 * m) (h : w.getLsbD k = true) :
    turned w m n (k + 1) = turned w m n k ^^^ steps (8 * (m - (n + k) / 8)) (w8 (UInt8.ofNat (2 ^ ((n + k) % 8)))) := by
  unfold turned
  rw [show low w (k + 1) = low w k ^^^ BitVec.twoPow 32 k by rw [low, h]; rfl]
  rw [steps_xor, steps_xor, one_later ⟨k, hk⟩]
  congr 1
  have e : 8 * (m - (n + k) / 8) = (n + k) % 8 + ((32 - k) + (8 * m - n - 32)) := by omega
  rw [e, steps_add, bit_first ⟨(n + k) % 8, Nat.mod_lt _ (by decide)⟩, steps_add]
theorem turned_ne (w : BitVec 32) (m n : Nat) (h : w ≠ 0#32) : turned w m n 32 ≠ 0#32 := by
  unfold turned; rw [low_all]; exact steps_ne _ _ (steps_ne _ _ h)

/-- The four bytes of a checksum, most significant first; a text with its checksum behind. -/
def be (c : BitVec 32) : List UInt8 := [UInt8.ofNat (c.toNat / 16777216), UInt8.ofNat (c.toNat / 65536), UInt8.ofNat (c.toNat / 256), UInt8.ofNat c.toNat]
theorem be_inj {a b : BitVec 32} (h : be a = be b) : a = b := by
  simp only [be, List.cons.injEq, and_true] at h
  obtain ⟨h1, h2, h3, h4⟩ := h
  have g1 := congrArg UInt8.toNat h1
  have g2 := congrArg UInt8.toNat h2
  have g3 := congrArg UInt8.toNat h3
  have g4 := congrArg UInt8.toNat h4
  simp only [UInt8.toNat_ofNat'] at g1 g2 g3 g4
  have ha := a.isLt
  have hb := b.isLt
  apply BitVec.eq_of_toNat_eq
  omega
theorem be_length (c : BitVec 32) : (be c).length = 4 := rfl
def sealed (l : List UInt8) : List UInt8 := l ++ be (crc l)
theorem sealed_length (l : List UInt8) : (sealed l).length = l.length + 4 := by simp [sealed, be]
/-- A byte of a sealed text turned: no sealed text stands there. -/
theorem sealed_turn (x : UInt8) (hx : x ≠ 0) (l : List UInt8) (q : Nat) (h : q < (sealed l).length) :
    sealed (((sealed l).set q ((sealed l)[q] ^^^ x)).take l.length) ≠ (sealed l).set q ((sealed l)[q] ^^^ x) := by
  by_cases hq : q < l.length
  · have e : (sealed l).set q ((sealed l)[q] ^^^ x) = l.set q (l[q] ^^^ x) ++ be (crc l) := by
      rw [show (sealed l)[q] = l[q] from List.getElem_append_left hq]
      unfold sealed
      rw [List.set_append_left _ _ hq]
    rw [e, List.take_left' (by simp)]
    intro e2
    unfold sealed at e2
    exact crc_turn x hx l q hq (be_inj (List.append_cancel_left e2))
  · have e : (sealed l).set q ((sealed l)[q] ^^^ x) = l ++ (be (crc l)).set (q - l.length) ((sealed l)[q] ^^^ x) := by
      unfold sealed
      rw [List.set_append_right _ _ (by omega)]
    rw [e, List.take_left' rfl]
    intro e2
    unfold sealed at e2
    have e3 := List.append_cancel_left e2
    have hq4 : q - l.length < (be (crc l)).length := by
      rw [sealed_length] at h; rw [be_length]; omega
    have e4 := congrArg (fun z => z[q - l.length]?) e3
    rw [List.getElem?_set_self hq4, List.getElem?_eq_getElem hq4] at e4
    have e5 := Option.some.inj e4
    have e6 : (l ++ be (crc l))[q]'(h) = (be (crc l))[q - l.length] := List.getElem_append_right (by omega)
    rw [← e6] at e5
    apply hx
    have := congrArg (fun z => ((l ++ be (crc l))[q]'(h)) ^^^ z) e5
    simpa [← UInt8.xor_assoc] using this.symm
end Crc
end Go.Proofs.YtkomfenjeoaelaaDoor

/- The model's operations on uint32 numbers said of BitVec 32, and what it means that the table of the program stands in memory. -/
namespace Go.Proofs.YtkomfenjeoaelaaDoor
open Go.RowKit
namespace Crc

theorem nat32 (a : BitVec 32) : (0 : Int) ≤ (a.toNat : Int) ∧ (a.toNat : Int) < 4294967296 := by
  have := a.isLt; omega
theorem xor_is (a b : BitVec 32) : bits .xor .u32 (a.toNat : Int) (b.toNat : Int) = ((a ^^^ b).toNat : Int) := by
  rw [u32_xor_nat _ _ a.isLt b.isLt, BitVec.toNat_xor]
theorem and15_is (a : BitVec 32) : bits .and .u32 (a.toNat : Int) 15 = ((a &&& 15#32).toNat : Int) := by
  have := u32_and_nat a.toNat 15 a.isLt (by decide)
  rw [BitVec.toNat_and]; exact this
theorem not_is (a : BitVec 32) : bits .xor .u32 4294967295 (a.toNat : Int) = ((~~~ a).toNat : Int) := by
  have := xor_is 4294967295#32 a
  rw [show ((4294967295#32 : BitVec 32).toNat : Int) = 4294967295 from rfl] at this
  rw [this, show (4294967295#32 : BitVec 32) = BitVec.allOnes 32 from rfl, BitVec.allOnes_xor]
theorem shr4_is (a : BitVec 32) : (a.toNat : Int) / 16 = ((a >>> 4).toNat : Int) := by
  rw [BitVec.toNat_ushiftRight, Nat.shiftRight_eq_div_pow]; simp

/-- Where the table stands: block 0. -/
def Tab (w : World) : Prop := ∀ j, j < 16 → w.cell? ⟨0, j, none⟩ = some (.int .u32 ((tabv j).toNat : Int))
theorem Tab.room {w : World} (h : Tab w) : 0 < w.heap.size :=
  World.block_lt_of_cell? w _ (h 0 (by decide))
theorem Tab.below {w w' : World} {B : Nat} (h : Tab w) (hb : Below B w w') (hB : 0 < B) : Tab w' := fun j hj =>
  (hb.cell (p := ⟨0, j, none⟩) hB).trans (h j hj)
theorem Tab.alloc {w : World} (h : Tab w) (o : Obj) : Tab (w.alloc o) :=
  h.below ((Below.refl w.heap.size w).alloc (Nat.le_refl _) o) h.room
theorem below_next {w a b : World} (h : Below w.heap.size w a) (k : Below a.heap.size a b) : Below w.heap.size w b := h.trans (k.mono h.size)
theorem below_new {w a : World} (h : Below w.heap.size w a) (o : Obj) : Below w.heap.size w (a.alloc o) := h.alloc h.size o
theorem Tab.next {w a : World} (h : Tab w) (k : Below w.heap.size w a) : Tab a := h.below k h.room
theorem Tab.drew {w : World} (h : Tab w) : Tab w.drew := h
end Crc
end Go.Proofs.YtkomfenjeoaelaaDoor

/- Contracts of the functions of package sum and of the document's answers for it, over the seat's translation. -/
namespace Go.Proofs.YtkomfenjeoaelaaDoor
open Go.RowKit Go.Proofs.YtkomfenjeoaelaaDoor.Crc

/-- Half a byte by the table, in the walk's spelling: each equation is one step of the walk. -/
theorem half (x : BitVec 32) {w : World} (ht : Tab w) : ∃ (i : Nat) (y z v : BitVec 32), i < 16 ∧ bits .and .u32 (x.toNat : Int) 15 = (i : Int) ∧ (x.toNat : Int) / 16 = (z.toNat : Int) ∧
    w.cell? ⟨0, i, none⟩ = some (.int .u32 (v.toNat : Int)) ∧ bits .xor .u32 (z.toNat : Int) (v.toNat : Int) = (y.toNat : Int) ∧ y = steps 4 x := by
  have hlt : (x &&& 15#32).toNat < 16 := by
    rw [BitVec.toNat_and]; exact Nat.lt_succ_of_le Nat.and_le_right
  exact ⟨(x &&& 15#32).toNat, steps 4 x, x >>> 4, tabv (x &&& 15#32).toNat, hlt, and15_is x, shr4_is x, ht _ hlt, by rw [xor_is, four], rfl⟩

theorem take_snoc (s : ByteArray) (k : Nat) (h : k < s.size) : s.data.toList.take (k + 1) = s.data.toList.take k ++ [s[k]] := by
  rw [List.take_succ_eq_append_getElem (by simpa using h)]; rfl

set_option maxHeartbeats 400000 in
theorem extended_any (c : BitVec 32) (s : ByteArray) (w : World) (hs : s.size ≤ maxLen) (ht : Tab w) :
    Calls Tryd.prog 100 #[.int .u32 (c.toNat : Int), .string s] w fun e w' => e = .returned (.int .u32 ((ext c s.data.toList).toNat : Int)) ∧ w = w' := by
  unfold maxLen at hs
  obtain ⟨c0, hc0⟩ : ∃ c0, c0 = ~~~c := ⟨_, rfl⟩
  have h0 : bits .xor .u32 IntKind.u32.max (c.toNat : Int) = (c0.toNat : Int) := by rw [hc0]; exact not_is c
  have HE : Hid (ext c s.data.toList = ~~~ (st c0 (s.data.toList.take s.size))) := by
    show _ = _
    rw [hc0, List.take_of_length_le (by simp)]; rfl
  clear hc0
  go_enter Tryd.func100, Tryd.ntmps100
  go_wp2
  go_loop [5, 11] (fun t i => ∃ k : Nat, k ≤ s.size ∧ i = .int .i64 k ∧ t = .int .u32 ((st c0 (s.data.toList.take k)).toNat : Int)) (fun _ i => s.size - (intOf i).toNat)
  case atStart => exact ⟨0, Nat.zero_le _, rfl, rfl⟩
  case round =>
    obtain ⟨k, hk, rfl, rfl⟩ := hrel
    clear h0
    by_cases hlt : k < s.size
    · have HS : Hid (st c0 (s.data.toList.take (k + 1)) = stB (st c0 (s.data.toList.take k)) s[k]) := by
        show _ = _
        rw [take_snoc s k hlt, st_snoc]
      rw [show stB (st c0 (s.data.toList.take k)) s[k] = steps 4 (steps 4 (st c0 (s.data.toList.take k) ^^^ w8 s[k])) from stB_two _ _] at HS
      generalize st c0 (s.data.toList.take k) = a at *
      obtain ⟨x, hx⟩ : ∃ x, x = a ^^^ w8 s[k] := ⟨_, rfl⟩
      rw [← hx] at HS
      have e0 : bits .xor .u32 (a.toNat : Int) ((s[k].toNat : Int) % 4294967296) = (x.toNat : Int) := by
        have := (s[k]).toNat_lt
        rw [Int.emod_eq_of_lt (by omega) (by omega), hx, ← xor_is, w8_toNat]
      clear hx
      obtain ⟨i, y, z, v, hi, e1, e2, e3, e4, e5⟩ := half x ht
      obtain ⟨i', y', z', v', hi', f1, f2, f3, f4, f5⟩ := half y ht
      rw [← e5, ← f5] at HS
      clear e5 f5
      go_wp2
      go_round
      case rel => exact ⟨k + 1, by omega, by go_num, by rw [HS.out]⟩
      case measure => simp [intOf]; omega
    · have hks : s.size = k := by omega
      rw [hks] at HE
      clear hks
      generalize st c0 (s.data.toList.take k) = a at *
      obtain ⟨d, hd⟩ : ∃ d, d = ~~~a := ⟨_, rfl⟩
      have h1 : bits .xor .u32 IntKind.u32.max (a.toNat : Int) = (d.toNat : Int) := by rw [hd]; exact not_is a
      rw [← hd] at HE
      clear hd
      go_wp2
      go_ret
      exact ⟨by rw [HE.out]; rfl, rfl⟩

/-- The bytes of some texts, one behind the other. -/
def flat (l : List ByteArray) : List UInt8 := l.flatMap (·.data.toList)
theorem flat_snoc (l : List ByteArray) (k : Nat) (h : k < l.length) : flat (l.take (k + 1)) = flat (l.take k) ++ l[k].data.toList := by
  unfold flat; rw [List.take_succ_eq_append_getElem h, List.flatMap_append]; simp
theorem flat_one (s : ByteArray) : flat [s] = s.data.toList := by simp [flat]

theorem of_none (w : World) : Calls Tryd.prog 78 #[.slice none 0 0] w fun e w' => e = .returned (.int .u32 0) ∧ w = w' := by
  go_enter Tryd.func78, Tryd.ntmps78
  go_wp2
  go_rounds 1
  go_ret
  exact ⟨rfl, rfl⟩

set_option maxHeartbeats 400000 in
theorem of_any (b o cap : Nat) (l : List ByteArray) (w : World) (hn : l.length ≤ maxLen) (ht : Tab w)
    (hc : ∀ j (h : j < l.length), w.cell? ⟨b, o + j, none⟩ = some (.string l[j])) (hz : ∀ j (h : j < l.length), l[j].size ≤ maxLen) :
    Calls Tryd.prog 78 #[.slice (some ⟨b, o, none⟩) l.length cap] w fun e w' => e = .returned (.int .u32 ((crc (flat l)).toNat : Int)) ∧ w = w' := by
  unfold maxLen at hn
  have HC := Lib.hid hc
  clear hc
  have HZ := Lib.hid hz
  clear hz
  have HE : Hid (crc (flat l) = crc (flat (l.take l.length))) := by
    show _ = _
    rw [List.take_length]
  go_enter Tryd.func78, Tryd.ntmps78
  go_wp2
  go_loop [3, 8] (fun t i => ∃ k : Nat, k ≤ l.length ∧ i = .int .i64 k ∧ t = .int .u32 ((crc (flat (l.take k))).toNat : Int)) (fun _ i => l.length - (intOf i).toNat)
  case atStart => exact ⟨0, Nat.zero_le _, rfl, by rw [List.take_zero, show flat [] = [] from rfl, crc_nil]; rfl⟩
  case round =>
    obtain ⟨k, hk, rfl, rfl⟩ := hrel
    by_cases hlt : k < l.length
    · obtain ⟨s, hs⟩ : ∃ s, s = l[k] := ⟨_, rfl⟩
      have HS : Hid (crc (flat (l.take (k + 1))) = ext (crc (flat (l.take k))) s.data.toList) := by
        show _ = _
        rw [flat_snoc l k hlt, ext_crc, hs]
      have hcell : w.cell? ⟨b, o + k, none⟩ = some (.string s) := by rw [hs]; exact HC.out k hlt
      have hsz : s.size ≤ maxLen := by rw [hs]; exact HZ.out k hlt
      clear hs
      generalize crc (flat (l.take k)) = a at *
      go_wp2_with (go_at_call 100; refine (extended_any _ _ _ hsz ht).mono ?_; rintro e w' ⟨rfl, rfl⟩)
      go_round
      case rel => exact ⟨k + 1, by omega, by go_num, by rw [HS.out]⟩
      case measure => simp [intOf]; omega
    · have hks : l.length = k := by omega
      have HF : Hid (crc (flat l) = crc (flat (l.take k))) := by
        show _ = _
        rw [← hks]; exact HE.out
      clear hks
      generalize crc (flat (l.take k)) = a at *
      go_wp2
      go_ret
      exact ⟨by rw [HF.out]; rfl, rfl⟩

def sealedB (s : ByteArray) : ByteArray := ⟨(sealed s.data.toList).toArray⟩
/-- A text in a cell of its own, as the variadic argument is handed on. -/
theorem of_one (b cap : Nat) (s : ByteArray) (c : BitVec 32) (w : World) (hs : s.size ≤ maxLen) (HC : Hid (crc s.data.toList = c)) (ht : Tab w) (hc : w.cell? ⟨b, 0, none⟩ = some (.string s)) :
    Calls Tryd.prog 78 #[.slice (some ⟨b, 0, none⟩) 1 cap] w fun e w' => e = .returned (.int .u32 (c.toNat : Int)) ∧ w = w' := by
  have := of_any b 0 cap [s] w (by show 1 ≤ _; unfold maxLen; omega) ht
    (fun j h => by obtain rfl : j = 0 := by simpa using h
                   exact hc)
    (fun j h => by obtain rfl : j = 0 := by simpa using h
                   exact hs)
  rwa [flat_one, HC.out] at this

/-- The four bytes, made into a text. -/
theorem be_back (P : Program) (src dst e : TypeId) (hs : P.underlying src = some (.slice e)) (he : P.underlying e = some (.int .u8)) (hd : P.underlying dst = some .string) (c : BitVec 32) (w : World) (b : Nat) (hb : b = w.heap.size) :
    (convert src dst (.slice (some ⟨b, 0, none⟩) 4 4)).run P (w.alloc (.cells #[.int .u8 ((c.toNat : Int) / 16777216), .int .u8 ((c.toNat : Int) / 65536 % 256), .int .u8 ((c.toNat : Int) / 256 % 256), .int .u8 ((c.toNat : Int) % 256)] e)) =
      .ok (.string ⟨(be c).toArray⟩) (w.alloc (.cells #[.int .u8 ((c.toNat : Int) / 16777216), .int .u8 ((c.toNat : Int) / 65536 % 256), .int .u8 ((c.toNat : Int) / 256 % 256), .int .u8 ((c.toNat : Int) % 256)] e)) := by
  subst hb
  have hc := c.isLt
  refine run_convert_bytes_back (P := P) _ src dst e ⟨w.heap.size, 0, none⟩ 4 (be c) hs he hd fun j hj => ?_
  have hj4 : j < 4 := hj
  have hp : (⟨w.heap.size, 0, none⟩ : Addr).add j = ⟨w.heap.size, j, none⟩ := by unfold Addr.add; split <;> simp_all
  rw [hp, World.cell?_alloc_mark]
  have e0 : ((c.toNat / 16777216 % 256 : Nat) : Int) = (c.toNat : Int) / 16777216 := by omega
  match j, hj4 with
  | 0, _ =>
    show some (Value.int IntKind.u8 _) = some (Value.int IntKind.u8 (((UInt8.ofNat (c.toNat / 16777216)).toNat : Nat) : Int))
    rw [UInt8.toNat_ofNat', ← e0]
  | 1, _ => simp [be]
  | 2, _ => simp [be]
  | 3, _ => simp [be]

theorem sealedB_eq (s : ByteArray) (c : BitVec 32) (HC : Hid (crc s.data.toList = c)) : s ++ (⟨(be c).toArray⟩ : ByteArray) = sealedB s := by
  apply ByteArray.ext
  unfold sealedB sealed
  rw [HC.out, ByteArray.data_append]
  apply Array.toList_inj.1
  simp

set_option maxHeartbeats 400000 in
theorem sealed_any (s : ByteArray) (w : World) (hs : s.size ≤ 1000000) (ht : Tab w) :
    Calls Tryd.prog 49 #[.string s] w fun e w' => e = .returned (.string (sealedB s)) ∧ Below w.heap.size w w' := by
  have hs' : s.size ≤ maxLen := by unfold maxLen; omega
  obtain ⟨c, hcc⟩ : ∃ c, crc s.data.toList = c := ⟨_, rfl⟩
  have HCC := Lib.hid hcc
  clear hcc
  have hk := be_back Tryd.prog 49 9 5 Tryd.underlying49 Tryd.underlying5 Tryd.underlying9 c (w.alloc (.cells #[.string s] 9)) (w.heap.size + 1) (by simp)
  obtain ⟨t4, ht4⟩ : ∃ t4 : ByteArray, t4 = ⟨(be c).toArray⟩ := ⟨_, rfl⟩
  have hz4 : s.size + t4.size ≤ 9223372036854775807 := by
    rw [ht4]; show s.size + 4 ≤ _; omega
  rw [← ht4] at hk
  have HT4 := Lib.hid ht4
  clear ht4
  go_enter Tryd.func49, Tryd.ntmps49
  go_wp2_with (go_at_call 78; refine (of_one _ _ _ c _ hs' HCC (ht.alloc _) (by simp [go_sem])).mono ?_; rintro e w' ⟨rfl, rfl⟩)
  go_ret
  exact ⟨by rw [← sealedB_eq s c HCC, ← HT4.out]; rfl, ((Below.refl _ _).alloc (Nat.le_refl _) _).alloc (by simp) _⟩

/-- Whether a text is a sealed one; what was sealed. -/
def opens (t : ByteArray) : Bool := decide (4 ≤ t.size ∧ sealedB (t.extract 0 (t.size - 4)) = t)
def bodyOf (t : ByteArray) : ByteArray := if opens t then t.extract 0 (t.size - 4) else ⟨#[]⟩

theorem str_ne {a b : ByteArray} (h : ¬ a = b) : (a.toList == b.toList) = false := by
  rw [ByteArray.toList_eq, ByteArray.toList_eq]
  apply Bool.eq_false_iff.2
  intro e
  exact h (ByteArray.ext (Array.toList_inj.1 (eq_of_beq e)))

set_option maxHeartbeats 400000 in
theorem open_any (t : ByteArray) (w : World) (hs : t.size ≤ 1000000) (ht : Tab w) :
    Calls Tryd.prog 56 #[.string t] w fun e w' => e = .returned (.tuple #[.string (bodyOf t), .bool (opens t)]) ∧ Below w.heap.size w w' := by
  by_cases h4 : t.size < 4
  · have ho : opens t = false := by unfold opens; simp; omega
    have hb : bodyOf t = ⟨#[]⟩ := by unfold bodyOf; rw [ho]; rfl
    have HO := Lib.hid ho
    have HB := Lib.hid hb
    clear ho hb
    go_enter Tryd.func56, Tryd.ntmps56
    go_wp2
    go_ret2
    exact ⟨by rw [HO.out, HB.out]; rfl, Below.refl _ _⟩
  · obtain ⟨x, hx⟩ : ∃ x, x = t.extract 0 (t.size - 4) := ⟨_, rfl⟩
    have hxs : x.size ≤ 1000000 := by rw [hx]; simp; omega
    have HX := Lib.hid hx
    by_cases he : sealedB x = t
    · have ho : opens t = true := by unfold opens; rw [← hx]; simp [he]; omega
      have hb : bodyOf t = x := by unfold bodyOf; rw [ho, hx]; rfl
      have HO := Lib.hid ho
      have HB := Lib.hid hb
      clear ho hb
      have hx2 := hx.symm
      clear hx
      go_enter Tryd.func56, Tryd.ntmps56
      go_wp2_with (go_at_call 49; refine (sealed_any x _ hxs ht).mono ?_; rintro e w' ⟨rfl, hw⟩)
      go_ret2
      exact ⟨by rw [HO.out, HB.out, HX.out]; rfl, hw⟩
    · have ho : opens t = false := by unfold opens; rw [← hx]; simp [he]
      have hne := str_ne he
      have hb : bodyOf t = ⟨#[]⟩ := by unfold bodyOf; rw [ho]; rfl
      have HO := Lib.hid ho
      have HB := Lib.hid hb
      clear ho hb
      have hx2 := hx.symm
      clear hx
      go_enter Tryd.func56, Tryd.ntmps56
      go_wp2_with (go_at_call 49; refine (sealed_any x _ hxs ht).mono ?_; rintro e w' ⟨rfl, hw⟩)
      go_ret2
      exact ⟨by rw [HO.out, HB.out]; rfl, hw⟩


/-- The same with the answers under names of their own: nothing is there for Lean to unfold. -/
theorem sealed_is (s t : ByteArray) (w : World) (H : Hid (sealedB s = t)) (hs : s.size ≤ 1000000) (ht : Tab w) :
    Calls Tryd.prog 49 #[.string s] w fun e w' => e = .returned (.string t) ∧ Below w.heap.size w w' := by
  have := sealed_any s w hs ht
  rwa [H.out] at this
theorem open_is (t b : ByteArray) (o : Bool) (w : World) (HB : Hid (bodyOf t = b)) (HO : Hid (opens t = o)) (hs : t.size ≤ 1000000) (ht : Tab w) :
    Calls Tryd.prog 56 #[.string t] w fun e w' => e = .returned (.tuple #[.string b, .bool o]) ∧ Below w.heap.size w w' := by
  have := open_any t w hs ht
  rwa [HB.out, HO.out] at this
/-- A text's checksum where the slice holds two texts. -/
theorem of_two (b cap : Nat) (s t : ByteArray) (c : BitVec 32) (w : World) (hs : s.size ≤ maxLen) (hs2 : t.size ≤ maxLen) (HC : Hid (crc (s.data.toList ++ t.data.toList) = c)) (ht : Tab w)
    (hc : w.cell? ⟨b, 0, none⟩ = some (.string s)) (hc2 : w.cell? ⟨b, 1, none⟩ = some (.string t)) :
    Calls Tryd.prog 78 #[.slice (some ⟨b, 0, none⟩) 2 cap] w fun e w' => e = .returned (.int .u32 (c.toNat : Int)) ∧ w = w' := by
  have := of_any b 0 cap [s, t] w (by show 2 ≤ _; unfold maxLen; omega) ht
    (fun j h => by
      match j, h with
      | 0, _ => exact hc
      | 1, _ => exact hc2)
    (fun j h => by
      match j, h with
      | 0, _ => exact hs
      | 1, _ => exact hs2)
  rwa [show flat [s, t] = s.data.toList ++ t.data.toList by simp [flat], HC.out] at this
end Go.Proofs.YtkomfenjeoaelaaDoor

/- Contracts of the document's answers for package sum (heliographref01), over the seat's translation. -/
namespace Go.Proofs.YtkomfenjeoaelaaDoor
open Go.RowKit Go.Proofs.YtkomfenjeoaelaaDoor.Crc

/-- One step as the document's answer takes it. -/
theorem step_odd (y : BitVec 32) (h : y.getLsbD 0 = true) : ∃ z : BitVec 32, (y.toNat : Int) % 2 = 1 ∧ (y.toNat : Int) / 2 = (z.toNat : Int) ∧ bits .xor .u32 (z.toNat : Int) 2197175160 = ((Crc.step y).toNat : Int) := by
  refine ⟨y >>> 1, ?_, ?_, ?_⟩
  · have : y.toNat % 2 = 1 := by
      rw [BitVec.getLsbD, Nat.testBit_zero] at h
      simpa using h
    omega
  · rw [BitVec.toNat_ushiftRight, Nat.shiftRight_eq_div_pow]; simp
  · have := xor_is (y >>> 1) 2197175160#32
    rw [show ((2197175160#32 : BitVec 32).toNat : Int) = 2197175160 from rfl] at this
    rw [this]; unfold Crc.step; rw [h]; rfl
theorem step_notodd (y : BitVec 32) (h : y.getLsbD 0 = false) : (y.toNat : Int) % 2 = 0 ∧ (y.toNat : Int) / 2 = ((Crc.step y).toNat : Int) := by
  constructor
  · have : y.toNat % 2 = 0 := by
      rw [BitVec.getLsbD, Nat.testBit_zero] at h
      simpa using h
    omega
  · rw [step_even y h, BitVec.toNat_ushiftRight, Nat.shiftRight_eq_div_pow]; simp

set_option maxHeartbeats 800000 in
theorem refOf_any (s : ByteArray) (w : World) (hs : s.size ≤ maxLen) :
    Calls Tryd.prog 82 #[.string s] w fun e w' => e = .returned (.int .u32 ((crc s.data.toList).toNat : Int)) ∧ w = w' := by
  unfold maxLen at hs
  have HE : Hid (crc s.data.toList = ~~~ (st 4294967295#32 (s.data.toList.take s.size))) := by
    show _ = _
    rw [List.take_of_length_le (by simp)]; rfl
  go_enter Tryd.func82, Tryd.ntmps82
  go_wp2
  go_loop [3, 4] (fun t i => ∃ k : Nat, k ≤ s.size ∧ i = .int .i64 k ∧ t = .int .u32 ((st 4294967295#32 (s.data.toList.take k)).toNat : Int)) (fun _ i => s.size - (intOf i).toNat)
  case atStart => exact ⟨0, Nat.zero_le _, rfl, rfl⟩
  case round =>
    obtain ⟨k, hk, rfl, rfl⟩ := hrel
    by_cases hlt : k < s.size
    · have HS : Hid (st 4294967295#32 (s.data.toList.take (k + 1)) = steps 8 (st 4294967295#32 (s.data.toList.take k) ^^^ w8 s[k])) := by
        show _ = _
        rw [take_snoc s k hlt, st_snoc]; rfl
      generalize st 4294967295#32 (s.data.toList.take k) = a at *
      obtain ⟨x, hx⟩ : ∃ x, x = a ^^^ w8 s[k] := ⟨_, rfl⟩
      rw [← hx] at HS
      have e0 : bits .xor .u32 (a.toNat : Int) ((s[k].toNat : Int) % 4294967296) = (x.toNat : Int) := by
        have := (s[k]).toNat_lt
        rw [Int.emod_eq_of_lt (by omega) (by omega), hx, ← xor_is, w8_toNat]
      clear hx
      go_wp2
      go_loop [3, 5] (fun t i => ∃ j : Nat, j ≤ 8 ∧ i = .int .i64 j ∧ t = .int .u32 ((steps j x).toNat : Int)) (fun _ i => 8 - (intOf i).toNat)
      case atStart => exact ⟨0, Nat.zero_le _, rfl, rfl⟩
      case round =>
        obtain ⟨j, hj, rfl, rfl⟩ := hrel
        clear e0
        by_cases hlj : j < 8
        · have HJ : Hid (steps (j + 1) x = Crc.step (steps j x)) := steps_succ' j x
          generalize steps j x = y at *
          cases hb : y.getLsbD 0
          · obtain ⟨e1, e2⟩ := step_notodd y hb
            clear hb
            go_wp2
            go_round
            case rel => exact ⟨j + 1, by omega, by go_num, by rw [HJ.out]⟩
            case measure => simp [intOf]; omega
          · obtain ⟨z, e1, e2, e3⟩ := step_odd y hb
            clear hb
            go_wp2
            go_round
            case rel => exact ⟨j + 1, by omega, by go_num, by rw [HJ.out]⟩
            case measure => simp [intOf]; omega
        · have HJ : Hid (st 4294967295#32 (s.data.toList.take (k + 1)) = steps j x) := by
            show _ = _
            rw [HS.out, show j = 8 by omega]
          clear HS
          go_wp2
          go_round
          case rel => exact ⟨k + 1, by omega, by go_num, by rw [HJ.out]⟩
          case measure => simp [intOf]; omega
    · have hks : s.size = k := by omega
      rw [hks] at HE
      clear hks
      generalize st 4294967295#32 (s.data.toList.take k) = a at *
      obtain ⟨d, hd⟩ : ∃ d, d = ~~~a := ⟨_, rfl⟩
      have h1 : bits .xor .u32 IntKind.u32.max (a.toNat : Int) = (d.toNat : Int) := by rw [hd]; exact not_is a
      rw [← hd] at HE
      clear hd
      go_wp2
      go_ret
      exact ⟨by rw [HE.out]; rfl, rfl⟩

set_option maxHeartbeats 400000 in
theorem refSealed_any (s : ByteArray) (w : World) (hs : s.size ≤ 1000000) :
    Calls Tryd.prog 55 #[.string s] w fun e w' => e = .returned (.string (sealedB s)) ∧ Below w.heap.size w w' := by
  have hs' : s.size ≤ maxLen := by unfold maxLen; omega
  obtain ⟨c, hcc⟩ : ∃ c, crc s.data.toList = c := ⟨_, rfl⟩
  have HCC := Lib.hid hcc
  clear hcc
  have hk := be_back Tryd.prog 49 9 5 Tryd.underlying49 Tryd.underlying5 Tryd.underlying9 c w w.heap.size rfl
  obtain ⟨t4, ht4⟩ : ∃ t4 : ByteArray, t4 = ⟨(be c).toArray⟩ := ⟨_, rfl⟩
  have hz4 : s.size + t4.size ≤ 9223372036854775807 := by
    rw [ht4]; show s.size + 4 ≤ _; omega
  rw [← ht4] at hk
  have HT4 := Lib.hid ht4
  clear ht4
  go_enter Tryd.func55, Tryd.ntmps55
  go_wp2_with (go_at_call 82; refine (refOf_any s _ hs').mono ?_; rw [HCC.out]; rintro e w' ⟨rfl, rfl⟩)
  go_ret
  exact ⟨by rw [← sealedB_eq s c HCC, ← HT4.out]; rfl, (Below.refl _ _).alloc (Nat.le_refl _) _⟩

set_option maxHeartbeats 400000 in
theorem refOpen_any (t : ByteArray) (w : World) (hs : t.size ≤ 1000000) :
    Calls Tryd.prog 58 #[.string t] w fun e w' => e = .returned (.tuple #[.string (bodyOf t), .bool (opens t)]) ∧ Below w.heap.size w w' := by
  by_cases h4 : t.size < 4
  · have ho : opens t = false := by unfold opens; simp; omega
    have hb : bodyOf t = ⟨#[]⟩ := by unfold bodyOf; rw [ho]; rfl
    have HO := Lib.hid ho
    have HB := Lib.hid hb
    clear ho hb
    go_enter Tryd.func58, Tryd.ntmps58
    go_wp2
    go_ret2
    exact ⟨by rw [HO.out, HB.out]; rfl, Below.refl _ _⟩
  · obtain ⟨x, hx⟩ : ∃ x, x = t.extract 0 (t.size - 4) := ⟨_, rfl⟩
    have hxs : x.size ≤ 1000000 := by rw [hx]; simp; omega
    by_cases he : sealedB x = t
    · have ho : opens t = true := by unfold opens; rw [← hx]; simp [he]; omega
      have hb : bodyOf t = x := by unfold bodyOf; rw [ho, hx]; rfl
      have HO := Lib.hid ho
      have HB := Lib.hid hb
      clear ho hb
      have hx2 := hx.symm
      clear hx
      go_enter Tryd.func58, Tryd.ntmps58
      go_wp2_with (go_at_call 55; refine (refSealed_any x _ hxs).mono ?_; rintro e w' ⟨rfl, hw⟩)
      go_ret2
      exact ⟨by rw [HO.out, HB.out]; rfl, hw⟩
    · have ho : opens t = false := by unfold opens; rw [← hx]; simp [he]
      have hne := str_ne he
      have hb : bodyOf t = ⟨#[]⟩ := by unfold bodyOf; rw [ho]; rfl
      have HO := Lib.hid ho
      have HB := Lib.hid hb
      clear ho hb
      have hx2 := hx.symm
      clear hx
      go_enter Tryd.func58, Tryd.ntmps58
      go_wp2_with (go_at_call 55; refine (refSealed_any x _ hxs).mono ?_; rintro e w' ⟨rfl, hw⟩)
      go_ret2
      exact ⟨by rw [HO.out, HB.out]; rfl, hw⟩
end Go.Proofs.YtkomfenjeoaelaaDoor
