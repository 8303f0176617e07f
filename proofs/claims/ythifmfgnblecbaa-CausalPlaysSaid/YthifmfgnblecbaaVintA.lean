/- Joined: VintMath, VintNum, VintPut, VintAll, VintGet, VintRefMath. -/
import Derived.Test.YthifmfgnblecbaaProg
import Derived.WalkKit
import Derived.Handy
import Derived.Outline
import Derived.Laws.IdiomStrings
import Derived.Laws.BitsAllLaws
import Derived.IntWalk
import Derived.Lib.Hide
import Derived.Laws.AppendOwn
import Derived.OwnWalk
import Derived.BigRegion
import Derived.Below
import Derived.WalkMore
/- Plain mathematics of the numbers' bytes: it imports nothing of the program. -/
namespace Go.Proofs.Ythifmfgnblecbaa
namespace Vi

/-- The bytes of a number: seven bits each, the least ones first. -/
def enc (n : Nat) : List UInt8 := if n < 128 then [UInt8.ofNat n] else UInt8.ofNat (n % 128 + 128) :: enc (n / 128)
termination_by n
decreasing_by omega

theorem enc_small {n : Nat} (h : n < 128) : enc n = [UInt8.ofNat n] := by rw [enc, if_pos h]
theorem enc_great {n : Nat} (h : ¬ n < 128) : enc n = UInt8.ofNat (n % 128 + 128) :: enc (n / 128) := by rw [enc, if_neg h]
theorem u8_of (n : Nat) (h : n < 256) : (UInt8.ofNat n).toNat = n := by
  rw [UInt8.toNat_ofNat']; exact Nat.mod_eq_of_lt (by omega)

theorem enc_len_pos (n : Nat) : 0 < (enc n).length := by
  by_cases h : n < 128
  · rw [enc_small h]; simp
  · rw [enc_great h]; simp
theorem enc_ne (n : Nat) : enc n ≠ [] := fun e => by have := enc_len_pos n; rw [e] at this; simp at this
theorem enc_len (k : Nat) : ∀ n, n < 128 ^ (k + 1) → (enc n).length ≤ k + 1 := by
  induction k with
  | zero => intro n h; rw [enc_small (by simpa using h)]; simp
  | succ k ih =>
    intro n h
    by_cases hn : n < 128
    · rw [enc_small hn]; simp
    · rw [enc_great hn]
      have := ih (n / 128) (by rw [Nat.pow_succ] at h; omega)
      simp; exact this
theorem enc_len10 (n : Nat) (h : n < 18446744073709551616) : (enc n).length ≤ 10 := enc_len 9 n (by
  have : (128 : Nat) ^ (9 + 1) = 1180591620717411303424 := by decide
  omega)
theorem enc_mono (m : Nat) : ∀ n, m ≤ n → (enc m).length ≤ (enc n).length := by
  induction m using Nat.strongRecOn with
  | ind m ih =>
    intro n h
    by_cases hm : m < 128
    · rw [enc_small hm]; exact enc_len_pos n
    · rw [enc_great hm, enc_great (by omega : ¬ n < 128)]
      have := ih (m / 128) (by omega) (n / 128) (Nat.div_le_div_right h)
      simp; exact this
theorem u8_inj {a b : Nat} (ha : a < 256) (hb : b < 256) (e : UInt8.ofNat a = UInt8.ofNat b) : a = b := by
  rw [← u8_of a ha, ← u8_of b hb, e]

/-- The number that bytes say. -/
def val : List UInt8 → Nat
  | [] => 0
  | b :: t => b.toNat % 128 + 128 * val t
theorem val_enc (n : Nat) : val (enc n) = n := by
  induction n using Nat.strongRecOn with
  | ind n ih =>
    by_cases h : n < 128
    · rw [enc_small h]
      show (UInt8.ofNat n).toNat % 128 + 128 * 0 = n
      rw [u8_of n (by omega)]; omega
    · rw [enc_great h]
      show (UInt8.ofNat (n % 128 + 128)).toNat % 128 + 128 * val (enc (n / 128)) = n
      rw [u8_of _ (by omega), ih (n / 128) (by omega)]; omega
theorem enc_inj {a b : Nat} (e : enc a = enc b) : a = b := by rw [← val_enc a, ← val_enc b, e]

/-- The number whose bytes open a text of which k groups have been read, and how many bytes it takes. -/
def getL : Nat → List UInt8 → Option (Nat × Nat)
  | _, [] => none
  | k, b :: t => if b.toNat = 0 ∧ 0 < k then none else if 1 < b.toNat ∧ k = 9 then none else if b.toNat < 128 then some (b.toNat, 1) else
    match getL (k + 1) t with
    | none => none
    | some (v, m) => some (b.toNat % 128 + 128 * v, m + 1)

theorem pow_step {k : Nat} (h : k < 9) : 2 ^ (64 - 7 * k) = 128 * 2 ^ (64 - 7 * (k + 1)) := by
  rw [show 64 - 7 * k = (64 - 7 * (k + 1)) + 7 by omega, Nat.pow_add, Nat.mul_comm]
theorem pow_big {k : Nat} (h : k < 9) : 128 ≤ 2 ^ (64 - 7 * k) := by
  rw [pow_step h]; have := Nat.two_pow_pos (64 - 7 * (k + 1)); omega

theorem getL_enc (n : Nat) : ∀ k rest, k ≤ 9 → n < 2 ^ (64 - 7 * k) → (0 < k → n ≠ 0) → getL k (enc n ++ rest) = some (n, (enc n).length) := by
  induction n using Nat.strongRecOn with
  | ind n ih =>
    intro k rest hk hn h0
    by_cases h : n < 128
    · rw [enc_small h]
      show getL k (UInt8.ofNat n :: rest) = _
      rw [getL, u8_of n (by omega), if_neg (fun h => h0 h.2 h.1), if_neg, if_pos h]; rfl
      rintro ⟨h1, rfl⟩
      have : (2 : Nat) ^ (64 - 7 * 9) = 2 := by decide
      omega
    · rw [enc_great h]
      have h9 : k < 9 := by
        refine Decidable.byContradiction fun e => ?_
        obtain rfl : k = 9 := by omega
        have : (2 : Nat) ^ (64 - 7 * 9) = 2 := by decide
        omega
      show getL k (UInt8.ofNat (n % 128 + 128) :: (enc (n / 128) ++ rest)) = _
      rw [getL, u8_of _ (by omega), if_neg (by omega), if_neg (by omega), if_neg (by omega), ih (n / 128) (by omega) (k + 1) rest (by omega) (by have := pow_step h9; omega) (by omega)]
      simp; omega

theorem getL_some (l : List UInt8) : ∀ k v m, k ≤ 9 → getL k l = some (v, m) → v < 2 ^ (64 - 7 * k) ∧ (0 < k → v ≠ 0) ∧ m = (enc v).length ∧ ∃ rest, l = enc v ++ rest := by
  induction l with
  | nil => intro k v m _ h; simp [getL] at h
  | cons b t ih =>
    intro k v m hk h
    rw [getL] at h
    have hb := b.toNat_lt
    have hbb : UInt8.ofNat b.toNat = b := UInt8.ofNat_toNat
    split at h
    · cases h
    split at h
    · cases h
    split at h
    · rename_i h1 h2 h3
      simp at h
      obtain ⟨rfl, rfl⟩ := h
      rw [enc_small h3]
      refine ⟨?_, fun hk0 e => h1 ⟨e, hk0⟩, rfl, t, by rw [hbb]; rfl⟩
      by_cases h9 : k = 9
      · subst h9
        have : (2 : Nat) ^ (64 - 7 * 9) = 2 := by decide
        omega
      · have := pow_big (show k < 9 by omega)
        omega
    · rename_i h1 h2 h3
      have h9 : k < 9 := by
        refine Decidable.byContradiction fun e => ?_
        exact h2 ⟨by omega, by omega⟩
      split at h
      · cases h
      · rename_i v' m' he
        simp at h
        obtain ⟨rfl, rfl⟩ := h
        obtain ⟨g1, g2, g3, rest, g4⟩ := ih (k + 1) v' m' (by omega) he
        have hv' := g2 (by omega)
        rw [enc_great (by omega : ¬ b.toNat % 128 + 128 * v' < 128)]
        have e1 : (b.toNat % 128 + 128 * v') / 128 = v' := by omega
        have e2 : (b.toNat % 128 + 128 * v') % 128 + 128 = b.toNat := by omega
        rw [e1, e2, hbb]
        exact ⟨by have := pow_step h9; omega, by omega, by simp [g3], rest, by rw [g4]; rfl⟩

/-- A number's bytes: all but the last have the high bit, the last has not. -/
theorem getL_high (l : List UInt8) : ∀ k, (∀ b ∈ l, 128 ≤ b.toNat) → getL k l = none := by
  induction l with
  | nil => intro k _; rfl
  | cons b t ih =>
    intro k h
    have hb := h b (List.mem_cons_self ..)
    rw [getL, if_neg (by omega)]
    split
    · rfl
    rw [if_neg (by omega), ih (k + 1) fun c hc => h c (List.mem_cons_of_mem _ hc)]
theorem enc_high (n : Nat) : ∀ j (h : j < (enc n).length), j + 1 < (enc n).length → 128 ≤ ((enc n)[j]).toNat := by
  induction n using Nat.strongRecOn with
  | ind n ih =>
    intro j h h1
    by_cases hn : n < 128
    · have : (enc n).length = 1 := by rw [enc_small hn]; rfl
      omega
    · have e := enc_great hn
      cases j with
      | zero => simp only [e, List.getElem_cons_zero, u8_of _ (by omega : n % 128 + 128 < 256)]; omega
      | succ j =>
        simp only [e, List.length_cons] at h h1
        simp only [e, List.getElem_cons_succ]
        exact ih (n / 128) (by omega) j (by omega) (by omega)
theorem enc_low (n : Nat) (h : (enc n).length - 1 < (enc n).length) : ((enc n)[(enc n).length - 1]).toNat < 128 := by
  induction n using Nat.strongRecOn with
  | ind n ih =>
    by_cases hn : n < 128
    · simp only [enc_small hn, List.length_singleton, Nat.sub_self, List.getElem_cons_zero]
      rw [u8_of n (by omega)]; exact hn
    · have e := enc_great hn
      have hp := enc_len_pos (n / 128)
      have := ih (n / 128) (by omega) (by omega)
      simp only [e, List.length_cons, Nat.add_sub_cancel]
      rw [List.getElem_cons]
      split
      · omega
      · exact this
end Vi
end Go.Proofs.Ythifmfgnblecbaa

/- Contracts of package vint's Zig and Zag, and of the document's answers for them. -/
namespace Go.Proofs.Ythifmfgnblecbaa
open Go.RowKit Go.Proofs.Ythifmfgnblecbaa.Vi

def zig (n : Int) : Int := if 0 ≤ n then 2 * n else -(2 * n) - 1
def zag (u : Int) : Int := if u % 2 = 0 then u / 2 else -(u / 2) - 1

theorem wrap64_is (x : Int) : wrap64 x = (x + 9223372036854775808) % 18446744073709551616 - 9223372036854775808 := by
  unfold wrap64; omega
theorem zx_pos (n : Int) (h0 : 0 ≤ n) (h1 : n ≤ 9223372036854775807) : bits .xor .u64 (IntKind.u64.wrap (wrap64 (n * 2))) (n / 9223372036854775808) = 2 * n := by
  have e1 : IntKind.u64.wrap (wrap64 (n * 2)) = 2 * n := by rw [IntKind.wrap_u64, wrap64_is]; omega
  have e2 : n / 9223372036854775808 = 0 := by omega
  rw [e1, e2, u64_xor _ _ (by omega) (by omega) (by omega) (by omega)]
  simp; omega
theorem ones_xor (a : Int) (h0 : 0 ≤ a) (h1 : a < 18446744073709551616) : bits .xor .u64 a 18446744073709551615 = 18446744073709551615 - a := by
  obtain ⟨A, rfl⟩ := Int.eq_ofNat_of_zero_le h0
  show IntKind.u64.wrap ((BitVec.ofInt 64 (A : Int) ^^^ BitVec.ofInt 64 18446744073709551615).toNat : Int) = _
  have e : BitVec.ofInt 64 18446744073709551615 = BitVec.allOnes 64 := by decide
  rw [e, BitVec.xor_allOnes, BitVec.toNat_not, ofInt_u64 A (by omega), IntKind.wrap_u64]
  omega
theorem zx_neg (n : Int) (h0 : n < 0) (h1 : -9223372036854775808 ≤ n) : bits .xor .u64 (IntKind.u64.wrap (wrap64 (n * 2))) (IntKind.u64.wrap (n / 9223372036854775808)) = -(2 * n) - 1 := by
  have e1 : IntKind.u64.wrap (wrap64 (n * 2)) = 2 * n + 18446744073709551616 := by rw [IntKind.wrap_u64, wrap64_is]; omega
  have e2 : IntKind.u64.wrap (n / 9223372036854775808) = 18446744073709551615 := by rw [IntKind.wrap_u64]; omega
  rw [e1, e2, ones_xor _ (by omega) (by omega)]; omega
theorem i64_xor_zero (a : Int) (h0 : 0 ≤ a) (h1 : a < 9223372036854775808) : bits .xor .i64 a 0 = a := by
  obtain ⟨A, rfl⟩ := Int.eq_ofNat_of_zero_le h0
  show IntKind.i64.wrap ((BitVec.ofInt 64 (A : Int) ^^^ BitVec.ofInt 64 0).toNat : Int) = _
  have e : BitVec.ofInt 64 0 = 0#64 := by decide
  rw [e, BitVec.xor_zero, ofInt_u64 A (by omega)]
  simp [IntKind.wrap, IntKind.bits, IntKind.signed]; omega
theorem i64_xor_ones (a : Int) (h0 : 0 ≤ a) (h1 : a < 9223372036854775808) : bits .xor .i64 a (-1) = -a - 1 := by
  obtain ⟨A, rfl⟩ := Int.eq_ofNat_of_zero_le h0
  show IntKind.i64.wrap ((BitVec.ofInt 64 (A : Int) ^^^ BitVec.ofInt 64 (-1)).toNat : Int) = _
  have e : BitVec.ofInt 64 (-1) = BitVec.allOnes 64 := by decide
  rw [e, BitVec.xor_allOnes, BitVec.toNat_not, ofInt_u64 A (by omega)]
  simp [IntKind.wrap, IntKind.bits, IntKind.signed]; omega
theorem and_one (u : Int) (h0 : 0 ≤ u) (h1 : u ≤ 18446744073709551615) : bits .and .u64 u 1 = u % 2 := by
  rw [u64_and u 1 h0 (by omega) (by omega) (by omega)]
  have : u.toNat &&& (1 : Int).toNat = u.toNat % 2 := Nat.and_one_is_mod _
  rw [this]; omega
theorem zg (u : Int) (h0 : 0 ≤ u) (h1 : u ≤ 18446744073709551615) : bits .xor .i64 (u / 2) (wrap64 (-wrap64 (bits .and .u64 u 1))) = zag u := by
  rw [and_one u h0 h1]
  unfold zag
  by_cases h : u % 2 = 0
  · have e : wrap64 (-wrap64 (u % 2)) = 0 := by rw [wrap64_is, wrap64_is]; omega
    rw [if_pos h, e, i64_xor_zero _ (by omega) (by omega)]
  · have e : wrap64 (-wrap64 (u % 2)) = -1 := by rw [wrap64_is, wrap64_is]; omega
    rw [if_neg h, e, i64_xor_ones _ (by omega) (by omega)]

theorem zig_bounds (n : Int) (h0 : -9223372036854775808 ≤ n) (h1 : n ≤ 9223372036854775807) : 0 ≤ zig n ∧ zig n ≤ 18446744073709551615 := by unfold zig; split <;> omega
theorem zag_zig (n : Int) : zag (zig n) = n := by unfold zig zag; split <;> split <;> omega
theorem zig_zag (u : Int) (h : 0 ≤ u) : zig (zag u) = u := by unfold zig zag; split <;> split <;> omega
theorem zag_bounds (u : Int) (h0 : 0 ≤ u) (h1 : u ≤ 18446744073709551615) : -9223372036854775808 ≤ zag u ∧ zag u ≤ 9223372036854775807 := by unfold zag; split <;> omega
end Go.Proofs.Ythifmfgnblecbaa

/- Contracts of package vint's Put, of what it appends by, and of the document's answer for it. -/
namespace Go.Proofs.Ythifmfgnblecbaa
open Go.RowKit Go.Proofs.Ythifmfgnblecbaa.Vi

theorem infoB : (Try.prog.info? 5).map (fun i => (i.zero, i.size, i.bytes)) = some (some (.int .u8 0), 1, 1) := by kernel_rfl

theorem ownsRow_slice {w : World} {base size n : Nat} {e : TypeId} {v : Value} {xs : List Value} (h : w.ownsRow base e size v n xs) : ∃ a c, v = .slice a n c := by
  rcases h.2 with ⟨h, h0⟩ | ⟨g, cap, cur, h, _⟩
  · exact ⟨_, _, by rw [h, h0]⟩
  · exact ⟨_, _, h⟩
/-- A byte as a cell holds it. -/
def bcellv (c : UInt8) : Value := .int .u8 (c.toNat : Int)
/-- v is a slice that the call has made above B, of the bytes xs. -/
def Row (w : World) (B : Nat) (v : Value) (xs : List UInt8) : Prop := w.ownsRow B 5 1 v xs.length (xs.map bcellv)
theorem Row.slice {w : World} {B : Nat} {v : Value} {xs : List UInt8} (h : Row w B v xs) : ∃ a c, v = .slice a xs.length c := ownsRow_slice h
theorem Row.nil (w : World) (B : Nat) : Row w B (.slice none 0 0) [] := World.ownsRow_nil _ _ _ _

/-- A text's bytes. -/
def tx (l : List UInt8) : ByteArray := ⟨l.toArray⟩
theorem tx_size (l : List UInt8) : (tx l).size = l.length := by simp [tx, ByteArray.size]
theorem tx_app (l m : List UInt8) : tx l ++ tx m = tx (l ++ m) := by
  apply ByteArray.ext
  rw [ByteArray.data_append]
  simp [tx]
theorem tx_list (s : ByteArray) : tx s.data.toList = s := by unfold tx; simp
theorem tx_inj {l m : List UInt8} (h : tx l = tx m) : l = m := by
  have := congrArg (fun s : ByteArray => s.data.toList) h
  simpa [tx] using this

/-- What an appending leaves: the bytes ys. -/
def RowDone (B : Nat) (ys : List UInt8) (w : World) (e : Ending) (w' : World) : Prop := ∃ v, e = .returned v ∧ Row w' B v ys ∧ Below B w w'
/-- A new text, and nothing that was there has turned. -/
def TextDone (t : ByteArray) (w : World) (e : Ending) (w' : World) : Prop := e = .returned (.string t) ∧ Below w.heap.size w w'

theorem or128 : ∀ x : Fin 256, x.val ||| 128 = x.val % 128 + 128 := by decide +kernel
theorem byte_or (k : Nat) (c : UInt8) (hc : c = UInt8.ofNat (k % 128 + 128)) : bits .or .u8 ((k : Int) % 256) 128 = (c.toNat : Int) := by
  subst hc
  have e : ((k : Int) % 256) = ((k % 256 : Nat) : Int) := by omega
  rw [e, u8_of _ (by omega)]
  have := u8_or_nat (k % 256) 128 (by omega) (by omega)
  rw [show ((128 : Nat) : Int) = (128 : Int) from rfl] at this
  rw [this, or128 ⟨k % 256, by omega⟩]
  show ((k % 256 % 128 + 128 : Nat) : Int) = _
  omega

set_option maxRecDepth 50000 in
theorem row_back {w : World} {B : Nat} {v : Value} {xs : List UInt8} (h : Row w B v xs) : (convert 84 9 v).run Try.prog w = .ok (.string (tx xs)) w := by
  rcases h.2 with ⟨hv, h0⟩ | ⟨g, cap, cur, hv, hg, hh, hn, hm, hs, ht⟩
  · obtain rfl := List.eq_nil_of_length_eq_zero h0
    subst hv
    rfl
  · subst hv
    have e1 := World.ownsRow.cellAt (show w.ownsRow B 5 1 _ xs.length (xs.map bcellv) from h)
    refine run_convert_bytes_back (P := Try.prog) w 84 9 5 ⟨g, 0, none⟩ cap xs Try.underlying84 Try.underlying5 Try.underlying9 fun j hj => ?_
    have hp : (⟨g, 0, none⟩ : Addr).add j = ⟨g, j, none⟩ := by unfold Addr.add; split <;> simp_all
    rw [hp, e1 j (by omega)]
    simp [hj, bcellv]

/-- One byte in a new slice, made into a text. -/
theorem one_back (c : UInt8) (w : World) : (convert 84 9 (.slice (some ⟨w.heap.size, 0, none⟩) 1 1)).run Try.prog (w.alloc (.cells #[.int .u8 (c.toNat : Int)] 5)) = .ok (.string (tx [c])) (w.alloc (.cells #[.int .u8 (c.toNat : Int)] 5)) := by
  refine run_convert_bytes_back (P := Try.prog) _ 84 9 5 ⟨w.heap.size, 0, none⟩ 1 [c] Try.underlying84 Try.underlying5 Try.underlying9 fun j hj => ?_
  obtain rfl : j = 0 := by simpa using hj
  simp [Addr.add]
/-- What the document's Put has so far: s0, and k is left. -/
def Half (s0 s : ByteArray) (k : Nat) : Prop := ∃ zs, tx zs = s0 ∧ tx (zs ++ enc k) = s
theorem Half.size {s0 s : ByteArray} {k : Nat} (h : Half s0 s k) : s0.size ≤ s.size := by
  obtain ⟨zs, rfl, rfl⟩ := h
  rw [tx_size, tx_size, List.length_append]; omega
theorem Half.step {s0 s : ByteArray} {k : Nat} (h : Half s0 s k) (hk : ¬ k < 128) : Half (s0 ++ tx [UInt8.ofNat (k % 128 + 128)]) s (k / 128) := by
  obtain ⟨zs, rfl, rfl⟩ := h
  exact ⟨zs ++ [UInt8.ofNat (k % 128 + 128)], (tx_app _ _).symm, by rw [enc_great hk, List.append_assoc]; rfl⟩
theorem Half.done {s0 s : ByteArray} {k : Nat} (h : Half s0 s k) (hk : k < 128) : s0 ++ tx [UInt8.ofNat k] = s := by
  obtain ⟨zs, rfl, rfl⟩ := h
  rw [tx_app, enc_small hk]

end Go.Proofs.Ythifmfgnblecbaa

/- Contracts of package vint's All and Text, of the document's answers for them, and of the law's cutting of a text. -/
namespace Go.Proofs.Ythifmfgnblecbaa
open Go.RowKit Go.Proofs.Ythifmfgnblecbaa.Vi

/-- Numbers with signs, one behind the other. -/
def encs (l : List Int) : List UInt8 := l.flatMap fun n => enc (zig n).toNat
theorem encs_snoc (l : List Int) (k : Nat) (h : k < l.length) : encs (l.take (k + 1)) = encs (l.take k) ++ enc (zig l[k]).toNat := by
  unfold encs; rw [List.take_succ_eq_append_getElem h, List.flatMap_append]; simp
theorem encs_len (l : List Int) (hb : ∀ n ∈ l, -9223372036854775808 ≤ n ∧ n ≤ 9223372036854775807) : (encs l).length ≤ 10 * l.length := by
  induction l with
  | nil => simp [encs]
  | cons a t ih =>
    have h1 := ih fun n hn => hb n (List.mem_cons_of_mem _ hn)
    obtain ⟨h2, h3⟩ := hb a (List.mem_cons_self ..)
    obtain ⟨h4, h5⟩ := zig_bounds a h2 h3
    have h6 := enc_len10 (zig a).toNat (by omega)
    have : encs (a :: t) = enc (zig a).toNat ++ encs t := by simp [encs]
    rw [this, List.length_append, List.length_cons]; omega
theorem encs_take_len (l : List Int) (k : Nat) (hl : l.length ≤ 40) (hb : ∀ n ∈ l, -9223372036854775808 ≤ n ∧ n ≤ 9223372036854775807) : (encs (l.take k)).length ≤ 400 := by
  have := encs_len (l.take k) fun n hn => hb n (List.mem_of_mem_take hn)
  have h2 : (l.take k).length ≤ l.length := List.length_take_le' ..
  omega

theorem encs_one (n : Int) : encs [n] = enc (zig n).toNat := by simp [encs]
theorem encs_two (n m : Int) : encs [n, m] = enc (zig n).toNat ++ enc (zig m).toNat := by simp [encs]

/-- A text with its length ahead. -/
def ahead (s : ByteArray) : ByteArray := tx (enc s.size ++ s.data.toList)
theorem ahead_eq (s : ByteArray) : ahead s = tx (enc s.size) ++ s := by
  unfold ahead; rw [← tx_app, tx_list]
/-- A text is cut to at most n bytes. -/
def cutB (s : ByteArray) (n : Nat) : ByteArray := if n < s.size then s.extract 0 n else s
theorem cutB_size (s : ByteArray) (n : Nat) : (cutB s n).size ≤ n ∧ (cutB s n).size ≤ s.size := by
  unfold cutB; split
  · simp; omega
  · omega
end Go.Proofs.Ythifmfgnblecbaa

/- The contract of package vint's Get. -/
namespace Go.Proofs.Ythifmfgnblecbaa
open Go.RowKit Go.Proofs.Ythifmfgnblecbaa.Vi

/-- The number at a place, the place behind it, and whether there is one. -/
def getR (l : List UInt8) (at_ : Int) : Int × Int × Int :=
  if at_ < 0 then (0, 0, 10) else match getL 0 (l.drop at_.toNat) with
    | none => (0, 0, 10)
    | some (v, m) => ((v : Int), at_ + (m : Int), 0)
/-- The same where k groups have been read, which say acc. -/
def GetAt (l : List UInt8) (a k acc : Nat) (v p e : Int) : Prop :=
  match getL k (l.drop (a + k)) with
    | none => v = 0 ∧ p = 0 ∧ e = 10
    | some (u, m) => v = ((acc + 2 ^ (7 * k) * u : Nat) : Int) ∧ p = ((a + k + m : Nat) : Int) ∧ e = 0
theorem GetAt.start {l : List UInt8} {a : Nat} {v p e : Int} (h : getR l (a : Int) = (v, p, e)) : GetAt l a 0 0 v p e := by
  unfold getR at h
  unfold GetAt
  rw [if_neg (by omega), Int.toNat_natCast] at h
  rw [Nat.add_zero]
  cases hg : getL 0 (l.drop a) with
  | none => rw [hg] at h; simpa [eq_comm] using h
  | some x =>
    rw [hg] at h
    simp at h
    obtain ⟨rfl, rfl, rfl⟩ := h
    exact ⟨by simp, by omega, rfl⟩
theorem getR_neg {l : List UInt8} {a v p e : Int} (h : getR l a = (v, p, e)) (ha : a < 0) : v = 0 ∧ p = 0 ∧ e = 10 := by
  unfold getR at h
  rw [if_pos ha] at h
  simpa [eq_comm] using h
theorem GetAt.short {l : List UInt8} {a k acc : Nat} {v p e : Int} (h : GetAt l a k acc v p e) (hl : l.length ≤ a + k) : v = 0 ∧ p = 0 ∧ e = 10 := by
  unfold GetAt at h
  rwa [List.drop_of_length_le hl] at h
theorem drop_at {l : List UInt8} {n : Nat} (h : n < l.length) : l.drop n = l[n] :: l.drop (n + 1) := List.drop_eq_getElem_cons h
theorem GetAt.bad {l : List UInt8} {a k acc : Nat} {v p e : Int} (h : GetAt l a k acc v p e) (hl : a + k < l.length) (hb : (l[a + k].toNat = 0 ∧ 0 < k) ∨ (1 < l[a + k].toNat ∧ k = 9)) : v = 0 ∧ p = 0 ∧ e = 10 := by
  unfold GetAt at h
  rw [drop_at hl, getL] at h
  rcases hb with hb | hb
  · rwa [if_pos hb] at h
  · by_cases h0 : l[a + k].toNat = 0 ∧ 0 < k
    · rwa [if_pos h0] at h
    · rwa [if_neg h0, if_pos hb] at h
theorem GetAt.last {l : List UInt8} {a k acc : Nat} {v p e : Int} (h : GetAt l a k acc v p e) (hl : a + k < l.length) (h1 : ¬ (l[a + k].toNat = 0 ∧ 0 < k)) (h2 : ¬ (1 < l[a + k].toNat ∧ k = 9)) (h3 : l[a + k].toNat < 128) :
    v = ((acc + 2 ^ (7 * k) * l[a + k].toNat : Nat) : Int) ∧ p = ((a + k + 1 : Nat) : Int) ∧ e = 0 := by
  unfold GetAt at h
  rw [drop_at hl, getL, if_neg h1, if_neg h2, if_pos h3] at h
  exact h
theorem GetAt.next {l : List UInt8} {a k acc : Nat} {v p e : Int} (h : GetAt l a k acc v p e) (hl : a + k < l.length) (h2 : ¬ (1 < l[a + k].toNat ∧ k = 9)) (h3 : ¬ l[a + k].toNat < 128) :
    GetAt l a (k + 1) (acc + 2 ^ (7 * k) * (l[a + k].toNat % 128)) v p e := by
  unfold GetAt at h ⊢
  rw [drop_at hl, getL, if_neg (by omega), if_neg h2, if_neg h3] at h
  rw [show a + (k + 1) = a + k + 1 by omega]
  cases hg : getL (k + 1) (l.drop (a + k + 1)) with
  | none => rw [hg] at h; exact h
  | some x =>
    rw [hg] at h
    obtain ⟨h4, h5, h6⟩ := h
    refine ⟨?_, by rw [h5]; congr 1; omega, h6⟩
    rw [h4, show 7 * (k + 1) = 7 * k + 7 by omega, Nat.pow_add, Nat.mul_add, Nat.add_assoc, ← Nat.mul_assoc]

theorem low_bits : ∀ x : Fin 256, x.val &&& (255 - 128) = x.val % 128 := by decide +kernel
theorem byte_low (b : UInt8) : bits .andNot .u8 (b.toNat : Int) 128 = ((b.toNat % 128 : Nat) : Int) := by
  have hb := b.toNat_lt
  have := u8_andNot_nat b.toNat 128 hb (by omega)
  rw [show ((128 : Nat) : Int) = (128 : Int) from rfl] at this
  rw [this, low_bits ⟨b.toNat, hb⟩]
theorem or_add (k acc c : Nat) (h1 : acc < 2 ^ (7 * k)) (h2 : 2 ^ (7 * k) * c + 2 ^ (7 * k) ≤ 18446744073709551616) :
    bits .or .u64 (acc : Int) (IntKind.u64.wrap ((c : Int) * 2 ^ (7 * k))) = ((acc + 2 ^ (7 * k) * c : Nat) : Int) := by
  obtain ⟨m, hm⟩ : ∃ m, 2 ^ (7 * k) * c = m := ⟨_, rfl⟩
  have e : (c : Int) * 2 ^ (7 * k) = ((2 ^ (7 * k) * c : Nat) : Int) := by
    rw [Int.natCast_mul, Int.mul_comm, Int.natCast_pow]; rfl
  have hor := Nat.two_pow_add_eq_or_of_lt h1 c
  rw [hm] at h2 e hor
  have e2 : IntKind.u64.wrap (m : Int) = (m : Int) := by rw [IntKind.wrap_u64]; omega
  rw [e, e2, hm, u64_or_nat acc m (by omega) (by omega), Nat.or_comm, ← hor, Nat.add_comm]
theorem pow_le {k : Nat} (h : k ≤ 8) : 2 ^ (7 * k) ≤ 72057594037927936 := by
  have := Nat.pow_le_pow_right (n := 2) (by omega) (show 7 * k ≤ 56 by omega)
  rwa [show 2 ^ 56 = 72057594037927936 by decide] at this

end Go.Proofs.Ythifmfgnblecbaa

/- What the document's Get looks for: the first byte without the high bit, at most the tenth. It imports nothing of the program. -/
namespace Go.Proofs.Ythifmfgnblecbaa.Vi

/-- The first m bytes from a on have the high bit. -/
def High (l : List UInt8) (a m : Nat) : Prop := ∀ j, j < m → ∀ h : a + j < l.length, 128 ≤ (l[a + j]).toNat
theorem High.zero (l : List UInt8) (a : Nat) : High l a 0 := fun _ hj => absurd hj (Nat.not_lt_zero _)
theorem High.succ {l : List UInt8} {a m : Nat} (h : High l a m) (hb : ∀ h : a + m < l.length, 128 ≤ (l[a + m]).toNat) : High l a (m + 1) := by
  intro j hj hl
  by_cases e : j = m
  · subst e; exact hb hl
  · exact h j (by omega) hl
theorem High.short {l : List UInt8} {a m : Nat} (h : High l a m) (hl : l.length ≤ a + m) : getL 0 (l.drop a) = none := by
  apply getL_high
  intro b hb
  obtain ⟨j, hj, rfl⟩ := List.getElem_of_mem hb
  rw [List.length_drop] at hj
  rw [List.getElem_drop]
  exact h j (by omega) (by omega)
theorem got {l : List UInt8} {a v m : Nat} (h : getL 0 (l.drop a) = some (v, m)) :
    v < 18446744073709551616 ∧ 1 ≤ m ∧ m ≤ 10 ∧ a + m ≤ l.length ∧ (l.drop a).take m = enc v ∧ (∀ h' : a + (m - 1) < l.length, (l[a + (m - 1)]).toNat < 128) ∧ High l a (m - 1) := by
  obtain ⟨h1, -, h3, rest, h4⟩ := getL_some _ 0 v m (by omega) h
  have h1 : v < 18446744073709551616 := h1
  have hp := enc_len_pos v
  have ht := enc_len10 v h1
  have hl := congrArg List.length h4
  rw [List.length_drop, List.length_append] at hl
  have at_ : ∀ j (hj : j < (enc v).length) (hj2 : a + j < l.length), l[a + j] = (enc v)[j] := by
    intro j hj hj2
    have : (l.drop a)[j]'(by rw [List.length_drop]; omega) = (enc v)[j] := by
      simp only [h4]
      rw [List.getElem_append_left hj]
    rw [← this, List.getElem_drop]
  subst h3
  refine ⟨h1, hp, ht, by omega, by rw [h4]; simp, fun h' => ?_, fun j hj hj2 => ?_⟩
  · rw [at_ _ (by omega) h']; exact enc_low v (by omega)
  · rw [at_ j (by omega) hj2]; exact enc_high v j (by omega) (by omega)
theorem High.ten {l : List UInt8} {a : Nat} (h : High l a 10) : getL 0 (l.drop a) = none := by
  cases e : getL 0 (l.drop a) with
  | none => rfl
  | some x =>
    obtain ⟨h1, h2, h3, h4, h5, h6, h7⟩ := got (v := x.1) (m := x.2) e
    have := h6 (by omega)
    have := h (x.2 - 1) (by omega) (by omega)
    omega
theorem get_first {l : List UInt8} {a n : Nat} (h : High l a n) (hl : a + (n + 1) ≤ l.length) (hb : (l[a + n]).toNat < 128) (hn : n + 1 ≤ 10) :
    getL 0 (l.drop a) = if enc (val ((l.drop a).take (n + 1)) % 18446744073709551616) = (l.drop a).take (n + 1) then some (val ((l.drop a).take (n + 1)) % 18446744073709551616, n + 1) else none := by
  split
  · rename_i he
    have hlen : ((l.drop a).take (n + 1)).length = n + 1 := by rw [List.length_take, List.length_drop]; omega
    have e : l.drop a = enc (val ((l.drop a).take (n + 1)) % 18446744073709551616) ++ (l.drop a).drop (n + 1) := by rw [he, List.take_append_drop]
    have := getL_enc (val ((l.drop a).take (n + 1)) % 18446744073709551616) 0 ((l.drop a).drop (n + 1)) (by omega) (by show _ < 18446744073709551616; omega) (by omega)
    rw [← e] at this
    rw [this]
    have h2 := congrArg List.length he
    rw [hlen] at h2
    rw [h2]
  · rename_i he
    cases e : getL 0 (l.drop a) with
    | none => rfl
    | some x =>
      exfalso
      obtain ⟨h1, h2, h3, h4, h5, h6, h7⟩ := got (v := x.1) (m := x.2) e
      have hm : x.2 = n + 1 := by
        rcases Nat.lt_trichotomy x.2 (n + 1) with c | c | c
        · have := h6 (by omega)
          have := h (x.2 - 1) (by omega) (by omega)
          omega
        · exact c
        · have := h7 n (by omega) (by omega)
          omega
      rw [hm] at h5
      apply he
      rw [h5, val_enc, Nat.mod_eq_of_lt h1]
end Go.Proofs.Ythifmfgnblecbaa.Vi
