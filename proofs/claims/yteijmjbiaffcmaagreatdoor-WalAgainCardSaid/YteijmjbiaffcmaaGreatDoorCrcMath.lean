/- Plain mathematics of CRC-32C over BitVec 32: the step, its linearity and injectivity, the table of four steps, the state after a list of bytes, and what turning one byte or up to 32 bits in a row does to it. It imports nothing of the program. -/
namespace Go.Proofs.YteijmjbiaffcmaaGreatDoor
namespace Crc

/-- One step: shifted right by one, with the polynomial if the number was odd. -/
def step (c : BitVec 32) : BitVec 32 := (c >>> 1) ^^^ (if c.getLsbD 0 then 0x82f63b78#32 else 0#32)
/-- So many steps. -/
def steps : Nat → BitVec 32 → BitVec 32
  | 0, c => c
  | n + 1, c => steps n (step c)

theorem pick_xor (x y : Bool) (p : BitVec 32) : (if (x ^^ y) then p else 0#32) = (if x then p else 0#32) ^^^ (if y then p else 0#32) := by
  cases x <;> cases y <;> simp
theorem step_xor (a b : BitVec 32) : step (a ^^^ b) = step a ^^^ step b := by
  unfold step
  rw [BitVec.ushiftRight_xor_distrib, BitVec.getLsbD_xor, pick_xor]
  ac_rfl
theorem steps_xor (n : Nat) : ∀ a b : BitVec 32, steps n (a ^^^ b) = steps n a ^^^ steps n b := by
  induction n with
  | zero => intro a b; rfl
  | succ n ih => intro a b; show steps n _ = _; rw [step_xor, ih]; rfl
theorem step_zero : step 0#32 = 0#32 := by decide
theorem steps_zero (n : Nat) : steps n 0#32 = 0#32 := by
  induction n with
  | zero => rfl
  | succ n ih => show steps n (step _) = _; rw [step_zero, ih]
theorem steps_add (m n : Nat) : ∀ c, steps (m + n) c = steps n (steps m c) := by
  induction m with
  | zero => intro c; rw [Nat.zero_add]; rfl
  | succ m ih => intro c; rw [Nat.succ_add]; exact ih (step c)
theorem steps_succ' (n : Nat) (c : BitVec 32) : steps (n + 1) c = step (steps n c) := steps_add n 1 c

theorem step_ne (c : BitVec 32) (h : c ≠ 0#32) : step c ≠ 0#32 := by
  intro e
  apply h
  unfold step at e
  have hb : c.getLsbD 0 = false := by
    have := congrArg (fun x => x.getLsbD 31) e
    cases hc : c.getLsbD 0
    · rfl
    · simp [hc] at this
  rw [hb] at e
  simp only [Bool.false_eq_true, if_false, BitVec.xor_zero] at e
  have h2 : ∀ i, i < 31 → c.getLsbD (i + 1) = false := by
    intro i hi
    have := congrArg (fun x => x.getLsbD i) e
    simpa [Nat.add_comm] using this
  apply BitVec.eq_of_getLsbD_eq
  intro i hi
  simp only [BitVec.getLsbD_zero]
  cases i with
  | zero => exact hb
  | succ i => exact h2 i (by omega)
theorem steps_ne (n : Nat) : ∀ c : BitVec 32, c ≠ 0#32 → steps n c ≠ 0#32 := by
  induction n with
  | zero => intro c h; exact h
  | succ n ih => intro c h; exact ih _ (step_ne c h)

theorem step_even (y : BitVec 32) (h : y.getLsbD 0 = false) : step y = y >>> 1 := by
  unfold step; rw [h]; simp
/-- What four steps make of each number below 16. -/
def tab : List Nat := [0, 274646895, 549293790, 820201905, 1098587580, 1361435347, 1640403810, 1905808397, 2197175160, 2460548119, 2722870694, 2987750089, 3280807620, 3553878443, 3811616794, 4084100981]
def tabv (n : Nat) : BitVec 32 := BitVec.ofNat 32 (tab.getD n 0)
theorem tabv_toNat (n : Nat) : (tabv n).toNat = tab.getD n 0 := by
  unfold tabv
  by_cases h : n < 16
  · have : ∀ i : Fin 16, (BitVec.ofNat 32 (tab.getD i.val 0)).toNat = tab.getD i.val 0 := by decide +kernel
    exact this ⟨n, h⟩
  · have e : tab.getD n 0 = 0 := by
      rw [List.getD_eq_getElem?_getD, List.getElem?_eq_none (by show 16 ≤ n; omega)]; rfl
    rw [e]; rfl
theorem four_small : ∀ n : Fin 16, steps 4 (BitVec.ofNat 32 n.val) = tabv n.val := by decide +kernel
theorem four_high (x : BitVec 32) : steps 4 ((x >>> 4) <<< 4) = x >>> 4 := by
  show step (step (step (step _))) = _
  rw [step_even (x >>> 4 <<< 4) (by simp), step_even (x >>> 4 <<< 4 >>> 1) (by simp), step_even (x >>> 4 <<< 4 >>> 1 >>> 1) (by simp), step_even (x >>> 4 <<< 4 >>> 1 >>> 1 >>> 1) (by simp)]
  apply BitVec.eq_of_getLsbD_eq
  intro i hi
  simp only [BitVec.getLsbD_ushiftRight, BitVec.getLsbD_shiftLeft]
  by_cases h : 4 + i < 32
  · have h1 : decide (1 + (1 + (1 + (1 + i))) < 32) = true := by simp; omega
    have h2 : decide (1 + (1 + (1 + (1 + i))) < 4) = false := by simp; omega
    rw [h1, h2]; simp; congr 1; omega
  · have h1 : decide (1 + (1 + (1 + (1 + i))) < 32) = false := by simp; omega
    rw [h1, BitVec.getLsbD_of_ge x (4 + i) (by omega)]; simp
theorem parts4 (c : BitVec 32) : c = ((c >>> 4) <<< 4) ^^^ (c &&& 15#32) := by
  apply BitVec.eq_of_getLsbD_eq
  intro i hi
  simp only [BitVec.getLsbD_xor, BitVec.getLsbD_ushiftRight, BitVec.getLsbD_shiftLeft, BitVec.getLsbD_and]
  have h15 : ∀ j : Fin 32, (15#32).getLsbD j.val = decide (j.val < 4) := by decide +kernel
  rw [h15 ⟨i, hi⟩]
  by_cases h : i < 4
  · simp [h]
  · have e : 4 + (i - 4) = i := by omega
    simp [h, e, hi]
theorem four (c : BitVec 32) : steps 4 c = (c >>> 4) ^^^ tabv (c &&& 15#32).toNat := by
  have hlt : (c &&& 15#32).toNat < 16 := by
    rw [BitVec.toNat_and]; exact Nat.lt_succ_of_le Nat.and_le_right
  have hs : steps 4 (c &&& 15#32) = tabv (c &&& 15#32).toNat := by
    simpa only [BitVec.ofNat_toNat, BitVec.setWidth_eq] using four_small ⟨_, hlt⟩
  have := congrArg (steps 4) (parts4 c)
  rw [steps_xor, four_high, hs] at this
  exact this

/-- A byte as a number of 32 bits. -/
def w8 (b : UInt8) : BitVec 32 := b.toBitVec.setWidth 32
theorem w8_toNat (b : UInt8) : (w8 b).toNat = b.toNat := by
  unfold w8
  rw [BitVec.toNat_setWidth]
  have := b.toNat_lt
  exact Nat.mod_eq_of_lt (by show b.toNat < _; omega)
theorem w8_xor (a b : UInt8) : w8 (a ^^^ b) = w8 a ^^^ w8 b := by
  unfold w8; simp
theorem w8_ne (b : UInt8) (h : b ≠ 0) : w8 b ≠ 0#32 := by
  intro e
  apply h
  have := congrArg BitVec.toNat e
  rw [w8_toNat] at this
  exact UInt8.toNat_inj.1 this
/-- The state behind one byte more; behind a list of bytes. -/
def stB (c : BitVec 32) (b : UInt8) : BitVec 32 := steps 8 (c ^^^ w8 b)
def st (c : BitVec 32) (l : List UInt8) : BitVec 32 := l.foldl stB c
theorem stB_xor (c d : BitVec 32) (b : UInt8) : stB (c ^^^ d) b = stB c b ^^^ steps 8 d := by
  unfold stB; rw [← steps_xor]; congr 1; ac_rfl
theorem stB_two (c : BitVec 32) (b : UInt8) : stB c b = steps 4 (steps 4 (c ^^^ w8 b)) := by
  unfold stB; rw [← steps_add]
theorem st_append (c : BitVec 32) (a b : List UInt8) : st c (a ++ b) = st (st c a) b := by unfold st; rw [List.foldl_append]
theorem st_snoc (c : BitVec 32) (a : List UInt8) (b : UInt8) : st c (a ++ [b]) = stB (st c a) b := by rw [st_append]; rfl
theorem st_xor (l : List UInt8) : ∀ c d : BitVec 32, st (c ^^^ d) l = st c l ^^^ steps (8 * l.length) d := by
  induction l with
  | nil => intro c d; rfl
  | cons b l ih =>
    intro c d
    show st (stB (c ^^^ d) b) l = st (stB c b) l ^^^ _
    rw [stB_xor, ih, ← steps_add, List.length_cons, Nat.mul_succ, Nat.add_comm]
theorem st_set (x : UInt8) : ∀ (l : List UInt8) (q : Nat) (h : q < l.length) (c : BitVec 32),
    st c (l.set q (l[q] ^^^ x)) = st c l ^^^ steps (8 * (l.length - q)) (w8 x) := by
  intro l
  induction l with
  | nil => intro q h; simp at h
  | cons b l ih =>
    intro q h c
    cases q with
    | zero =>
      show st (stB c (b ^^^ x)) l = st (stB c b) l ^^^ _
      rw [show stB c (b ^^^ x) = stB c b ^^^ steps 8 (w8 x) by unfold stB; rw [w8_xor, ← steps_xor]; congr 1; ac_rfl]
      rw [st_xor, ← steps_add, Nat.sub_zero, List.length_cons, Nat.mul_succ, Nat.add_comm]
    | succ q =>
      show st (stB c b) (l.set q (l[q]'(by simpa using h) ^^^ x)) = st (stB c b) l ^^^ _
      rw [ih q (by simpa using h)]
      simp

/-- The checksum; that of what stands behind a text of checksum c. -/
def crc (l : List UInt8) : BitVec 32 := ~~~ (st 4294967295#32 l)
def ext (c : BitVec 32) (l : List UInt8) : BitVec 32 := ~~~ (st (~~~ c) l)
theorem crc_nil : crc [] = 0#32 := by decide
theorem ext_zero (l : List UInt8) : ext 0#32 l = crc l := by unfold ext crc; congr 1
theorem ext_crc (a b : List UInt8) : ext (crc a) b = crc (a ++ b) := by
  unfold ext crc; rw [BitVec.not_not, st_append]
theorem ext_ext (c : BitVec 32) (a b : List UInt8) : ext (ext c a) b = ext c (a ++ b) := by
  unfold ext; rw [BitVec.not_not, st_append]
theorem ext_nil (c : BitVec 32) : ext c [] = c := by
  show ~~~ (~~~ c) = c; rw [BitVec.not_not]
theorem not_inj {a b : BitVec 32} (h : ~~~ a = ~~~ b) : a = b := by
  have := congrArg (fun x => ~~~ x) h
  simpa [BitVec.not_not] using this
theorem xor_ne {a d : BitVec 32} (h : d ≠ 0#32) : a ^^^ d ≠ a := by
  intro e
  apply h
  have := congrArg (fun x => a ^^^ x) e
  simpa [← BitVec.xor_assoc] using this
theorem crc_turn (x : UInt8) (hx : x ≠ 0) (l : List UInt8) (q : Nat) (h : q < l.length) : crc (l.set q (l[q] ^^^ x)) ≠ crc l := by
  intro e
  have := not_inj e
  rw [st_set] at this
  exact xor_ne (steps_ne _ _ (w8_ne x hx)) this

/-- The first k of the bits of w. -/
def low (w : BitVec 32) : Nat → BitVec 32
  | 0 => 0#32
  | k + 1 => low w k ^^^ (if w.getLsbD k then BitVec.twoPow 32 k else 0#32)
theorem low_bit (w : BitVec 32) (k i : Nat) (hi : i < 32) : (low w k).getLsbD i = (decide (i < k) && w.getLsbD i) := by
  induction k with
  | zero => simp [low]
  | succ k ih =>
    unfold low
    rw [BitVec.getLsbD_xor, ih]
    by_cases h : i = k
    · subst h
      cases hw : w.getLsbD i <;> simp [hi]
    · have e1 : decide (i < k + 1) = decide (i < k) := by congr 1; simp; omega
      rw [e1]
      have hk : (if w.getLsbD k = true then BitVec.twoPow 32 k else 0#32).getLsbD i = false := by
        split
        · rw [BitVec.getLsbD_twoPow]; simp; omega
        · simp
      rw [hk, Bool.xor_false]
theorem low_all (w : BitVec 32) : low w 32 = w := by
  apply BitVec.eq_of_getLsbD_eq
  intro i hi
  rw [low_bit w 32 i hi]; simp [hi]
theorem one_later : ∀ i : Fin 32, steps 32 (BitVec.twoPow 32 i.val) = steps (32 - i.val) 1#32 := by decide +kernel
theorem bit_first : ∀ r : Fin 8, steps r.val (w8 (UInt8.ofNat (2 ^ r.val))) = 1#32 := by decide +kernel

/-- What the turned bits up to the k-th make of the state. -/
def turned (w : BitVec 32) (m n k : Nat) : BitVec 32 := steps (8 * m - n - 32) (steps 32 (low w k))
theorem turned_zero (w : BitVec 32) (m n : Nat) : turned w m n 0 = 0#32 := by unfold turned low; rw [steps_zero, steps_zero]
theorem turned_skip (w : BitVec 32) (m n k : Nat) (h : w.getLsbD k = false) : turned w m n (k + 1) = turned w m n k := by
  unfold turned; rw [show low w (k + 1) = low w k by rw [low, h]; simp]
theorem turned_bit (w : BitVec 32) (m n k : Nat) (hk : k < 32) (hn : n + 32 ≤ 8 * m) (h : w.getLsbD k = true) :
    turned w m n (k + 1) = turned w m n k ^^^ steps (8 * (m - (n + k) / 8)) (w8 (UInt8.ofNat (2 ^ ((n + k) % 8)))) := by
  unfold turned
  rw [show low w (k + 1) = low w k ^^^ BitVec.twoPow 32 k by rw [low, h]; rfl]
  rw [steps_xor, steps_xor, one_later ⟨k, hk⟩]
  congr 1
  have e : 8 * (m - (n + k) / 8) = (n + k) % 8 + ((32 - k) + (8 * m - n - 32)) := by omega
  rw [e, steps_add, bit_first ⟨(n + k) % 8, Nat.mod_lt _ (by decide)⟩, steps_add]
theorem turned_ne (w : BitVec 32) (m n : Nat) (h : w ≠ 0#32) : turned w m n 32 ≠ 0#32 := by
  unfold turned; rw [low_all]; exact steps_ne _ _ (steps_ne _ _ h)

/-- The four bytes of a checksum, most significant first; a text with its checksum behind. -/
def be (c : BitVec 32) : List UInt8 := [UInt8.ofNat (c.toNat / 16777216), UInt8.ofNat (c.toNat / 65536), UInt8.ofNat (c.toNat / 256), UInt8.ofNat c.toNat]
theorem be_inj {a b : BitVec 32} (h : be a = be b) : a = b := by
  simp only [be, List.cons.injEq, and_true] at h
  obtain ⟨h1, h2, h3, h4⟩ := h
  have g1 := congrArg UInt8.toNat h1
  have g2 := congrArg UInt8.toNat h2
  have g3 := congrArg UInt8.toNat h3
  have g4 := congrArg UInt8.toNat h4
  simp only [UInt8.toNat_ofNat'] at g1 g2 g3 g4
  have ha := a.isLt
  have hb := b.isLt
  apply BitVec.eq_of_toNat_eq
  omega
theorem be_length (c : BitVec 32) : (be c).length = 4 := rfl
def sealed (l : List UInt8) : List UInt8 := l ++ be (crc l)
theorem sealed_length (l : List UInt8) : (sealed l).length = l.length + 4 := by simp [sealed, be]
/-- A byte of a sealed text turned: no sealed text stands there. -/
theorem sealed_turn (x : UInt8) (hx : x ≠ 0) (l : List UInt8) (q : Nat) (h : q < (sealed l).length) :
    sealed (((sealed l).set q ((sealed l)[q] ^^^ x)).take l.length) ≠ (sealed l).set q ((sealed l)[q] ^^^ x) := by
  by_cases hq : q < l.length
  · have e : (sealed l).set q ((sealed l)[q] ^^^ x) = l.set q (l[q] ^^^ x) ++ be (crc l) := by
      rw [show (sealed l)[q] = l[q] from List.getElem_append_left hq]
      unfold sealed
      rw [List.set_append_left _ _ hq]
    rw [e, List.take_left' (by simp)]
    intro e2
    unfold sealed at e2
    exact crc_turn x hx l q hq (be_inj (List.append_cancel_left e2))
  · have e : (sealed l).set q ((sealed l)[q] ^^^ x) = l ++ (be (crc l)).set (q - l.length) ((sealed l)[q] ^^^ x) := by
      unfold sealed
      rw [List.set_append_right _ _ (by omega)]
    rw [e, List.take_left' rfl]
    intro e2
    unfold sealed at e2
    have e3 := List.append_cancel_left e2
    have hq4 : q - l.length < (be (crc l)).length := by
      rw [sealed_length] at h; rw [be_length]; omega
    have e4 := congrArg (fun z => z[q - l.length]?) e3
    rw [List.getElem?_set_self hq4, List.getElem?_eq_getElem hq4] at e4
    have e5 := Option.some.inj e4
    have e6 : (l ++ be (crc l))[q]'(h) = (be (crc l))[q - l.length] := List.getElem_append_right (by omega)
    rw [← e6] at e5
    apply hx
    have := congrArg (fun z => ((l ++ be (crc l))[q]'(h)) ^^^ z) e5
    simpa [← UInt8.xor_assoc] using this.symm
end Crc
end Go.Proofs.YteijmjbiaffcmaaGreatDoor
