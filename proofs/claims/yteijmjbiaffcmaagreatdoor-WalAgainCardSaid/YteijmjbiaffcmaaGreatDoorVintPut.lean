/- Contracts of package vint's Put, of what it appends by, and of the document's answer for it. -/
import Derived.Test.YteijmjbiaffcmaaGreatDoorVintNum
import Derived.Laws.AppendOwn
import Derived.OwnWalk
import Derived.BigRegion
import Derived.Below
namespace Go.Proofs.YteijmjbiaffcmaaGreatDoor
open Go.RowKit Go.Proofs.YteijmjbiaffcmaaGreatDoor.Vi

theorem infoB : (Tryz.prog.info? 5).map (fun i => (i.zero, i.size, i.bytes)) = some (some (.int .u8 0), 1, 1) := by kernel_rfl

theorem ownsRow_slice {w : World} {base size n : Nat} {e : TypeId} {v : Value} {xs : List Value} (h : w.ownsRow base e size v n xs) : ∃ a c, v = .slice a n c := by
  rcases h.2 with ⟨h, h0⟩ | ⟨g, cap, cur, h, _⟩
  · exact ⟨_, _, by rw [h, h0]⟩
  · exact ⟨_, _, h⟩
/-- A byte as a cell holds it. -/
def bcellv (c : UInt8) : Value := .int .u8 (c.toNat : Int)
/-- v is a slice that the call has made above B, of the bytes xs. -/
def Row (w : World) (B : Nat) (v : Value) (xs : List UInt8) : Prop := w.ownsRow B 5 1 v xs.length (xs.map bcellv)
theorem Row.slice {w : World} {B : Nat} {v : Value} {xs : List UInt8} (h : Row w B v xs) : ∃ a c, v = .slice a xs.length c := ownsRow_slice h
theorem Row.nil (w : World) (B : Nat) : Row w B (.slice none 0 0) [] := World.ownsRow_nil _ _ _ _

/-- A text's bytes. -/
def tx (l : List UInt8) : ByteArray := ⟨l.toArray⟩
theorem tx_size (l : List UInt8) : (tx l).size = l.length := by simp [tx, ByteArray.size]
theorem tx_app (l m : List UInt8) : tx l ++ tx m = tx (l ++ m) := by
  apply ByteArray.ext
  rw [ByteArray.data_append]
  simp [tx]
theorem tx_list (s : ByteArray) : tx s.data.toList = s := by unfold tx; simp
theorem tx_inj {l m : List UInt8} (h : tx l = tx m) : l = m := by
  have := congrArg (fun s : ByteArray => s.data.toList) h
  simpa [tx] using this

/-- What an appending leaves: the bytes ys. -/
def RowDone (B : Nat) (ys : List UInt8) (w : World) (e : Ending) (w' : World) : Prop := ∃ v, e = .returned v ∧ Row w' B v ys ∧ Below B w w'
/-- A new text, and nothing that was there has turned. -/
def TextDone (t : ByteArray) (w : World) (e : Ending) (w' : World) : Prop := e = .returned (.string t) ∧ Below w.heap.size w w'

theorem or128 : ∀ x : Fin 256, x.val ||| 128 = x.val % 128 + 128 := by decide +kernel
theorem byte_or (k : Nat) (c : UInt8) (hc : c = UInt8.ofNat (k % 128 + 128)) : bits .or .u8 ((k : Int) % 256) 128 = (c.toNat : Int) := by
  subst hc
  have e : ((k : Int) % 256) = ((k % 256 : Nat) : Int) := by omega
  rw [e, u8_of _ (by omega)]
  have := u8_or_nat (k % 256) 128 (by omega) (by omega)
  rw [show ((128 : Nat) : Int) = (128 : Int) from rfl] at this
  rw [this, or128 ⟨k % 256, by omega⟩]
  show ((k % 256 % 128 + 128 : Nat) : Int) = _
  omega

set_option maxHeartbeats 1000000 in
theorem appended_any (B : Nat) (v : Value) (xs : List UInt8) (n : Nat) (w : World) (hB : B ≤ w.heap.size) (h : Row w B v xs) (hl : xs.length ≤ 100000) (hn : n < 18446744073709551616) :
    Calls Tryz.prog 81 #[v, .int .u64 n] w (RowDone B (xs ++ enc n) w) := by
  obtain ⟨i0, hi, hz0, hz1, hz2⟩ := info_parts infoB
  have hlen : (xs ++ enc n).length ≤ 100010 := by have := enc_len10 n hn; simp; omega
  have hH := Lib.hid h
  clear h hl
  obtain ⟨ys, hys⟩ : ∃ ys, xs ++ enc n = ys := ⟨_, rfl⟩
  rw [hys] at hlen ⊢
  have HY := Lib.hid hys
  clear hys
  go_enter Tryz.func81, Tryz.ntmps81
  go_wp2
  go_loopw [0, 1] (fun a m wr => ∃ (k : Nat) (zs : List UInt8), m = .int .u64 (k : Int) ∧ k < 18446744073709551616 ∧ Row wr B a zs ∧ zs ++ enc k = ys ∧ Below B w wr) (fun _ m _ => (intOf m).toNat)
  case atStart => exact ⟨n, xs, rfl, hn, hH.out, HY.out, Below.refl _ _⟩
  case round =>
    obtain ⟨k, zs, rfl, hk, hR, hzs, hbel⟩ := hrel
    obtain ⟨ad, cp, rfl⟩ := hR.slice
    have hzl : zs.length ≤ 100009 := by
      have := enc_len_pos k
      rw [← hzs, List.length_append] at hlen; omega
    have hBr : B ≤ wr.heap.size := Nat.le_trans hB hbel.size
    have hne : ∀ q, (Value.slice ad zs.length cp).ownBlock = some q → B ≤ q := fun q hq => (World.ownsRow.lt hR q hq).1
    by_cases h128 : k < 128
    · obtain ⟨c, rfl⟩ : ∃ c : UInt8, k = c.toNat := ⟨UInt8.ofNat k, (u8_of k (by omega)).symm⟩
      have HE := Lib.hid (show zs ++ [c] = ys by rw [← UInt8.ofNat_toNat (x := c), ← enc_small h128]; exact hzs)
      have h2 : ¬ (128 : Int) ≤ (c.toNat : Int) := by omega
      have h3 : c.toNat < 256 := by omega
      clear hzs
      go_wp2_with (first
        | (at_builtin; refine wpList_append_own _ rfl _ _ 57 rfl B 5 i0 (.int .u8 0) 1 1 Tryz.underlying57 hi hz0 hz1 hz2 rfl (by decide) _ _ _ rfl (hR.alloc _) ⟨wr.heap.size, 0, none⟩ 1 1 [bcellv c] rfl rfl ?c1 ?c2 ?c3 ?c4 ?c5 ?_))
      case c1 =>
        intro j u hj
        match j, hj with
        | 0, hj => simp at hj; subst hj; simp [bcellv]
      case c2 => rfl
      case c3 => unfold maxLen; omega
      case c4 => omega
      case c5 => omega
      intro v' w3 hown3 hgrow _
      have hB3 : Below B wr w3 := ((Below.refl B wr).alloc hBr _).grown hgrow (by simp; omega) hne
      have hR3 : Row w3 B v' (zs ++ [c]) := by
        unfold Row
        simp only [List.length_append, List.map_append, List.length_cons, List.length_nil, List.map_cons, List.map_nil]
        exact hown3
      have HR3 := Lib.hid hR3
      have HB3 := Lib.hid (hbel.trans hB3)
      clear hown3 hgrow hR3 hB3 hR hbel hne
      go_wp2
      go_ret
      exact ⟨_, rfl, HE.out ▸ HR3.out, HB3.out⟩
    · obtain ⟨c, hcc⟩ : ∃ c, c = UInt8.ofNat (k % 128 + 128) := ⟨_, rfl⟩
      have hb := byte_or k c hcc
      have HE := Lib.hid (show zs ++ [c] ++ enc (k / 128) = ys by rw [hcc, List.append_assoc, List.singleton_append, ← enc_great h128]; exact hzs)
      have h2 : (128 : Int) ≤ (k : Int) := by omega
      have h3 : (k : Int) ≤ 18446744073709551615 := by omega
      clear hzs hcc
      go_wp2_with (first
        | (at_builtin; refine wpList_append_own _ rfl _ _ 57 rfl B 5 i0 (.int .u8 0) 1 1 Tryz.underlying57 hi hz0 hz1 hz2 rfl (by decide) _ _ _ rfl (hR.alloc _) ⟨wr.heap.size, 0, none⟩ 1 1 [bcellv c] rfl rfl ?c1 ?c2 ?c3 ?c4 ?c5 ?_))
      case c1 =>
        intro j u hj
        match j, hj with
        | 0, hj => simp at hj; subst hj; simp [Addr.add, bcellv]
      case c2 => intro u hu; simp at hu; subst hu; rfl
      case c3 => unfold maxLen; omega
      case c4 => omega
      case c5 => simp; omega
      intro v' w3 hown3 hgrow _
      have hB3 : Below B wr w3 := ((Below.refl B wr).alloc hBr _).grown hgrow (by simp; omega) hne
      have hR3 : Row w3 B v' (zs ++ [c]) := by
        unfold Row
        simp only [List.length_append, List.map_append, List.length_cons, List.length_nil, List.map_cons, List.map_nil]
        exact hown3
      have HR3 := Lib.hid hR3
      have HB3 := Lib.hid (hbel.trans hB3)
      clear hown3 hgrow hR3 hB3 hR hbel hne hb
      go_wp2
      go_roundw
      case rel => exact ⟨k / 128, zs ++ [c], by simp, by omega, HR3.out, HE.out, HB3.out⟩
      case measure => simp [intOf]; omega

set_option maxRecDepth 50000 in
theorem row_back {w : World} {B : Nat} {v : Value} {xs : List UInt8} (h : Row w B v xs) : (convert 57 9 v).run Tryz.prog w = .ok (.string (tx xs)) w := by
  rcases h.2 with ⟨hv, h0⟩ | ⟨g, cap, cur, hv, hg, hh, hn, hm, hs, ht⟩
  · obtain rfl := List.eq_nil_of_length_eq_zero h0
    subst hv
    rfl
  · subst hv
    have e1 := World.ownsRow.cellAt (show w.ownsRow B 5 1 _ xs.length (xs.map bcellv) from h)
    refine run_convert_bytes_back (P := Tryz.prog) w 57 9 5 ⟨g, 0, none⟩ cap xs Tryz.underlying57 Tryz.underlying5 Tryz.underlying9 fun j hj => ?_
    have hp : (⟨g, 0, none⟩ : Addr).add j = ⟨g, j, none⟩ := by unfold Addr.add; split <;> simp_all
    rw [hp, e1 j (by omega)]
    simp [hj, bcellv]

set_option maxHeartbeats 400000 in
theorem put_is (n : Nat) (s : ByteArray) (w : World) (hn : n < 18446744073709551616) (hs : Hid (tx (enc n) = s)) :
    Calls Tryz.prog 45 #[.int .u64 n] w (TextDone s w) := by
  have k := appended_any w.heap.size (.slice none 0 0) [] n w (Nat.le_refl _) (Row.nil _ _) (by simp) hn
  go_enter Tryz.func45, Tryz.ntmps45
  go_wp2_with (go_at_call 81; (with_reducible refine k.mono ?_); rintro e w' ⟨v, rfl, hR, hb⟩; have hk := row_back hR; have hb' := Lib.hid hb; clear hb hR)
  go_ret
  exact ⟨by rw [← hs.out]; rfl, hb'.out⟩

/-- One byte in a new slice, made into a text. -/
theorem one_back (c : UInt8) (w : World) : (convert 57 9 (.slice (some ⟨w.heap.size, 0, none⟩) 1 1)).run Tryz.prog (w.alloc (.cells #[.int .u8 (c.toNat : Int)] 5)) = .ok (.string (tx [c])) (w.alloc (.cells #[.int .u8 (c.toNat : Int)] 5)) := by
  refine run_convert_bytes_back (P := Tryz.prog) _ 57 9 5 ⟨w.heap.size, 0, none⟩ 1 [c] Tryz.underlying57 Tryz.underlying5 Tryz.underlying9 fun j hj => ?_
  obtain rfl : j = 0 := by simpa using hj
  simp [Addr.add]
/-- What the document's Put has so far: s0, and k is left. -/
def Half (s0 s : ByteArray) (k : Nat) : Prop := ∃ zs, tx zs = s0 ∧ tx (zs ++ enc k) = s
theorem Half.size {s0 s : ByteArray} {k : Nat} (h : Half s0 s k) : s0.size ≤ s.size := by
  obtain ⟨zs, rfl, rfl⟩ := h
  rw [tx_size, tx_size, List.length_append]; omega
theorem Half.step {s0 s : ByteArray} {k : Nat} (h : Half s0 s k) (hk : ¬ k < 128) : Half (s0 ++ tx [UInt8.ofNat (k % 128 + 128)]) s (k / 128) := by
  obtain ⟨zs, rfl, rfl⟩ := h
  exact ⟨zs ++ [UInt8.ofNat (k % 128 + 128)], (tx_app _ _).symm, by rw [enc_great hk, List.append_assoc]; rfl⟩
theorem Half.done {s0 s : ByteArray} {k : Nat} (h : Half s0 s k) (hk : k < 128) : s0 ++ tx [UInt8.ofNat k] = s := by
  obtain ⟨zs, rfl, rfl⟩ := h
  rw [tx_app, enc_small hk]

set_option maxHeartbeats 1000000 in
theorem refPut_is (n : Nat) (s : ByteArray) (w : World) (hn : n < 18446744073709551616) (hs : Hid (tx (enc n) = s)) :
    Calls Tryz.prog 48 #[.int .u64 n] w (TextDone s w) := by
  have hsz : s.size ≤ 10 := by rw [← hs.out, tx_size]; exact enc_len10 n hn
  have hst : Half ⟨#[]⟩ s n := ⟨[], rfl, hs.out⟩
  clear hs
  go_enter Tryz.func48, Tryz.ntmps48
  go_wp2
  go_loopw [0, 3] (fun m a wr => ∃ (k : Nat) (s0 : ByteArray), m = .int .u64 (k : Int) ∧ k < 18446744073709551616 ∧ a = .string s0 ∧ Half s0 s k ∧ Below w.heap.size w wr) (fun m _ _ => (intOf m).toNat)
  case atStart => exact ⟨n, ⟨#[]⟩, rfl, hn, rfl, hst, Below.refl _ _⟩
  case round =>
    obtain ⟨k, s0, rfl, hk, rfl, hH, hbel⟩ := hrel
    have h0 := hH.size
    have hw0 := hbel.size
    by_cases h128 : k < 128
    · have HD := Lib.hid (hH.done h128)
      obtain ⟨c, rfl⟩ : ∃ c : UInt8, k = c.toNat := ⟨UInt8.ofNat k, (u8_of k (by omega)).symm⟩
      rw [UInt8.ofNat_toNat] at HD
      have h2 : ¬ (128 : Int) ≤ (c.toNat : Int) := by omega
      have h3 : c.toNat < 256 := by omega
      have hk1 := one_back c wr
      obtain ⟨t, ht⟩ : ∃ t, tx [c] = t := ⟨_, rfl⟩
      have hz : s0.size + t.size ≤ 9223372036854775807 := by rw [← ht, tx_size]; simp; omega
      rw [ht] at hk1 HD
      have HB := Lib.hid (hbel.alloc hw0 (.cells #[.int .u8 (c.toNat : Int)] 5))
      clear ht hH hbel
      go_wp2
      go_ret
      exact ⟨by rw [← HD.out]; rfl, HB.out⟩
    · have HN := Lib.hid (hH.step h128)
      obtain ⟨c, hc⟩ : ∃ c, UInt8.ofNat (k % 128 + 128) = c := ⟨_, rfl⟩
      rw [hc] at HN
      have hb : (k : Int) % 128 + 128 = (c.toNat : Int) := by rw [← hc, u8_of _ (by omega)]; omega
      have h2 : (128 : Int) ≤ (k : Int) := by omega
      have h3 : (k : Int) ≤ 18446744073709551615 := by omega
      have hk1 := one_back c wr
      obtain ⟨t, ht⟩ : ∃ t, tx [c] = t := ⟨_, rfl⟩
      have hz : s0.size + t.size ≤ 9223372036854775807 := by rw [← ht, tx_size]; simp; omega
      rw [ht] at hk1 HN
      have HB := Lib.hid (hbel.alloc hw0 (.cells #[.int .u8 (c.toNat : Int)] 5))
      clear ht hc hH hbel
      go_wp2
      clear hb
      go_roundw
      case rel => exact ⟨k / 128, s0 ++ t, by simp, by omega, rfl, HN.out, HB.out⟩
      case measure => simp [intOf]; omega
end Go.Proofs.YteijmjbiaffcmaaGreatDoor
