/- Contracts of the functions of package sum and of the document's answers for it, over the seat's translation. -/
import Derived.Test.YteijmjbiaffcmaaGreatDoorProg
import Derived.Test.YteijmjbiaffcmaaGreatDoorCrcBits
import Derived.Outline
namespace Go.Proofs.YteijmjbiaffcmaaGreatDoor
open Go.RowKit Go.Proofs.YteijmjbiaffcmaaGreatDoor.Crc

/-- Half a byte by the table, in the walk's spelling: each equation is one step of the walk. -/
theorem half (x : BitVec 32) {w : World} (ht : Tab w) : ∃ (i : Nat) (y z v : BitVec 32), i < 16 ∧ bits .and .u32 (x.toNat : Int) 15 = (i : Int) ∧ (x.toNat : Int) / 16 = (z.toNat : Int) ∧
    w.cell? ⟨4, i, none⟩ = some (.int .u32 (v.toNat : Int)) ∧ bits .xor .u32 (z.toNat : Int) (v.toNat : Int) = (y.toNat : Int) ∧ y = steps 4 x := by
  have hlt : (x &&& 15#32).toNat < 16 := by
    rw [BitVec.toNat_and]; exact Nat.lt_succ_of_le Nat.and_le_right
  exact ⟨(x &&& 15#32).toNat, steps 4 x, x >>> 4, tabv (x &&& 15#32).toNat, hlt, and15_is x, shr4_is x, ht _ hlt, by rw [xor_is, four], rfl⟩

theorem take_snoc (s : ByteArray) (k : Nat) (h : k < s.size) : s.data.toList.take (k + 1) = s.data.toList.take k ++ [s[k]] := by
  rw [List.take_succ_eq_append_getElem (by simpa using h)]; rfl

set_option maxHeartbeats 400000 in
theorem extended_any (c : BitVec 32) (s : ByteArray) (w : World) (hs : s.size ≤ maxLen) (ht : Tab w) :
    Calls Tryz.prog 133 #[.int .u32 (c.toNat : Int), .string s] w fun e w' => e = .returned (.int .u32 ((ext c s.data.toList).toNat : Int)) ∧ w = w' := by
  unfold maxLen at hs
  obtain ⟨c0, hc0⟩ : ∃ c0, c0 = ~~~c := ⟨_, rfl⟩
  have h0 : bits .xor .u32 IntKind.u32.max (c.toNat : Int) = (c0.toNat : Int) := by rw [hc0]; exact not_is c
  have HE : Hid (ext c s.data.toList = ~~~ (st c0 (s.data.toList.take s.size))) := by
    show _ = _
    rw [hc0, List.take_of_length_le (by simp)]; rfl
  clear hc0
  go_enter Tryz.func133, Tryz.ntmps133
  go_wp2
  go_loop [5, 11] (fun t i => ∃ k : Nat, k ≤ s.size ∧ i = .int .i64 k ∧ t = .int .u32 ((st c0 (s.data.toList.take k)).toNat : Int)) (fun _ i => s.size - (intOf i).toNat)
  case atStart => exact ⟨0, Nat.zero_le _, rfl, rfl⟩
  case round =>
    obtain ⟨k, hk, rfl, rfl⟩ := hrel
    clear h0
    by_cases hlt : k < s.size
    · have HS : Hid (st c0 (s.data.toList.take (k + 1)) = stB (st c0 (s.data.toList.take k)) s[k]) := by
        show _ = _
        rw [take_snoc s k hlt, st_snoc]
      rw [show stB (st c0 (s.data.toList.take k)) s[k] = steps 4 (steps 4 (st c0 (s.data.toList.take k) ^^^ w8 s[k])) from stB_two _ _] at HS
      generalize st c0 (s.data.toList.take k) = a at *
      obtain ⟨x, hx⟩ : ∃ x, x = a ^^^ w8 s[k] := ⟨_, rfl⟩
      rw [← hx] at HS
      have e0 : bits .xor .u32 (a.toNat : Int) ((s[k].toNat : Int) % 4294967296) = (x.toNat : Int) := by
        have := (s[k]).toNat_lt
        rw [Int.emod_eq_of_lt (by omega) (by omega), hx, ← xor_is, w8_toNat]
      clear hx
      obtain ⟨i, y, z, v, hi, e1, e2, e3, e4, e5⟩ := half x ht
      obtain ⟨i', y', z', v', hi', f1, f2, f3, f4, f5⟩ := half y ht
      rw [← e5, ← f5] at HS
      clear e5 f5
      go_wp2
      go_round
      case rel => exact ⟨k + 1, by omega, by go_num, by rw [HS.out]⟩
      case measure => simp [intOf]; omega
    · have hks : s.size = k := by omega
      rw [hks] at HE
      clear hks
      generalize st c0 (s.data.toList.take k) = a at *
      obtain ⟨d, hd⟩ : ∃ d, d = ~~~a := ⟨_, rfl⟩
      have h1 : bits .xor .u32 IntKind.u32.max (a.toNat : Int) = (d.toNat : Int) := by rw [hd]; exact not_is a
      rw [← hd] at HE
      clear hd
      go_wp2
      go_ret
      exact ⟨by rw [HE.out]; rfl, rfl⟩

/-- The bytes of some texts, one behind the other. -/
def flat (l : List ByteArray) : List UInt8 := l.flatMap (·.data.toList)
theorem flat_snoc (l : List ByteArray) (k : Nat) (h : k < l.length) : flat (l.take (k + 1)) = flat (l.take k) ++ l[k].data.toList := by
  unfold flat; rw [List.take_succ_eq_append_getElem h, List.flatMap_append]; simp
theorem flat_one (s : ByteArray) : flat [s] = s.data.toList := by simp [flat]

theorem of_none (w : World) : Calls Tryz.prog 114 #[.slice none 0 0] w fun e w' => e = .returned (.int .u32 0) ∧ w = w' := by
  go_enter Tryz.func114, Tryz.ntmps114
  go_wp2
  go_rounds 1
  go_ret
  exact ⟨rfl, rfl⟩

set_option maxHeartbeats 400000 in
theorem of_any (b o cap : Nat) (l : List ByteArray) (w : World) (hn : l.length ≤ maxLen) (ht : Tab w)
    (hc : ∀ j (h : j < l.length), w.cell? ⟨b, o + j, none⟩ = some (.string l[j])) (hz : ∀ j (h : j < l.length), l[j].size ≤ maxLen) :
    Calls Tryz.prog 114 #[.slice (some ⟨b, o, none⟩) l.length cap] w fun e w' => e = .returned (.int .u32 ((crc (flat l)).toNat : Int)) ∧ w = w' := by
  unfold maxLen at hn
  have HC := Lib.hid hc
  clear hc
  have HZ := Lib.hid hz
  clear hz
  have HE : Hid (crc (flat l) = crc (flat (l.take l.length))) := by
    show _ = _
    rw [List.take_length]
  go_enter Tryz.func114, Tryz.ntmps114
  go_wp2
  go_loop [3, 8] (fun t i => ∃ k : Nat, k ≤ l.length ∧ i = .int .i64 k ∧ t = .int .u32 ((crc (flat (l.take k))).toNat : Int)) (fun _ i => l.length - (intOf i).toNat)
  case atStart => exact ⟨0, Nat.zero_le _, rfl, by rw [List.take_zero, show flat [] = [] from rfl, crc_nil]; rfl⟩
  case round =>
    obtain ⟨k, hk, rfl, rfl⟩ := hrel
    by_cases hlt : k < l.length
    · obtain ⟨s, hs⟩ : ∃ s, s = l[k] := ⟨_, rfl⟩
      have HS : Hid (crc (flat (l.take (k + 1))) = ext (crc (flat (l.take k))) s.data.toList) := by
        show _ = _
        rw [flat_snoc l k hlt, ext_crc, hs]
      have hcell : w.cell? ⟨b, o + k, none⟩ = some (.string s) := by rw [hs]; exact HC.out k hlt
      have hsz : s.size ≤ maxLen := by rw [hs]; exact HZ.out k hlt
      clear hs
      generalize crc (flat (l.take k)) = a at *
      go_wp2_with (go_at_call 133; refine (extended_any _ _ _ hsz ht).mono ?_; rintro e w' ⟨rfl, rfl⟩)
      go_round
      case rel => exact ⟨k + 1, by omega, by go_num, by rw [HS.out]⟩
      case measure => simp [intOf]; omega
    · have hks : l.length = k := by omega
      have HF : Hid (crc (flat l) = crc (flat (l.take k))) := by
        show _ = _
        rw [← hks]; exact HE.out
      clear hks
      generalize crc (flat (l.take k)) = a at *
      go_wp2
      go_ret
      exact ⟨by rw [HF.out]; rfl, rfl⟩

def sealedB (s : ByteArray) : ByteArray := ⟨(sealed s.data.toList).toArray⟩
/-- A text in a cell of its own, as the variadic argument is handed on. -/
theorem of_one (b cap : Nat) (s : ByteArray) (c : BitVec 32) (w : World) (hs : s.size ≤ maxLen) (HC : Hid (crc s.data.toList = c)) (ht : Tab w) (hc : w.cell? ⟨b, 0, none⟩ = some (.string s)) :
    Calls Tryz.prog 114 #[.slice (some ⟨b, 0, none⟩) 1 cap] w fun e w' => e = .returned (.int .u32 (c.toNat : Int)) ∧ w = w' := by
  have := of_any b 0 cap [s] w (by show 1 ≤ _; unfold maxLen; omega) ht
    (fun j h => by obtain rfl : j = 0 := by simpa using h
                   exact hc)
    (fun j h => by obtain rfl : j = 0 := by simpa using h
                   exact hs)
  rwa [flat_one, HC.out] at this

/-- The four bytes, made into a text. -/
theorem be_back (P : Program) (src dst e : TypeId) (hs : P.underlying src = some (.slice e)) (he : P.underlying e = some (.int .u8)) (hd : P.underlying dst = some .string) (c : BitVec 32) (w : World) (b : Nat) (hb : b = w.heap.size) :
    (convert src dst (.slice (some ⟨b, 0, none⟩) 4 4)).run P (w.alloc (.cells #[.int .u8 ((c.toNat : Int) / 16777216), .int .u8 ((c.toNat : Int) / 65536 % 256), .int .u8 ((c.toNat : Int) / 256 % 256), .int .u8 ((c.toNat : Int) % 256)] e)) =
      .ok (.string ⟨(be c).toArray⟩) (w.alloc (.cells #[.int .u8 ((c.toNat : Int) / 16777216), .int .u8 ((c.toNat : Int) / 65536 % 256), .int .u8 ((c.toNat : Int) / 256 % 256), .int .u8 ((c.toNat : Int) % 256)] e)) := by
  subst hb
  have hc := c.isLt
  refine run_convert_bytes_back (P := P) _ src dst e ⟨w.heap.size, 0, none⟩ 4 (be c) hs he hd fun j hj => ?_
  have hj4 : j < 4 := hj
  have hp : (⟨w.heap.size, 0, none⟩ : Addr).add j = ⟨w.heap.size, j, none⟩ := by unfold Addr.add; split <;> simp_all
  rw [hp, World.cell?_alloc_mark]
  have e0 : ((c.toNat / 16777216 % 256 : Nat) : Int) = (c.toNat : Int) / 16777216 := by omega
  match j, hj4 with
  | 0, _ =>
    show some (Value.int IntKind.u8 _) = some (Value.int IntKind.u8 (((UInt8.ofNat (c.toNat / 16777216)).toNat : Nat) : Int))
    rw [UInt8.toNat_ofNat', ← e0]
  | 1, _ => simp [be]
  | 2, _ => simp [be]
  | 3, _ => simp [be]

theorem sealedB_eq (s : ByteArray) (c : BitVec 32) (HC : Hid (crc s.data.toList = c)) : s ++ (⟨(be c).toArray⟩ : ByteArray) = sealedB s := by
  apply ByteArray.ext
  unfold sealedB sealed
  rw [HC.out, ByteArray.data_append]
  apply Array.toList_inj.1
  simp

set_option maxHeartbeats 400000 in
theorem sealed_any (s : ByteArray) (w : World) (hs : s.size ≤ 1000000) (ht : Tab w) :
    Calls Tryz.prog 92 #[.string s] w fun e w' => e = .returned (.string (sealedB s)) ∧ Below w.heap.size w w' := by
  have hs' : s.size ≤ maxLen := by unfold maxLen; omega
  obtain ⟨c, hcc⟩ : ∃ c, crc s.data.toList = c := ⟨_, rfl⟩
  have HCC := Lib.hid hcc
  clear hcc
  have hk := be_back Tryz.prog 57 9 5 Tryz.underlying57 Tryz.underlying5 Tryz.underlying9 c (w.alloc (.cells #[.string s] 9)) (w.heap.size + 1) (by simp)
  obtain ⟨t4, ht4⟩ : ∃ t4 : ByteArray, t4 = ⟨(be c).toArray⟩ := ⟨_, rfl⟩
  have hz4 : s.size + t4.size ≤ 9223372036854775807 := by
    rw [ht4]; show s.size + 4 ≤ _; omega
  rw [← ht4] at hk
  have HT4 := Lib.hid ht4
  clear ht4
  go_enter Tryz.func92, Tryz.ntmps92
  go_wp2_with (go_at_call 114; refine (of_one _ _ _ c _ hs' HCC (ht.alloc _) (by simp [go_sem])).mono ?_; rintro e w' ⟨rfl, rfl⟩)
  go_ret
  exact ⟨by rw [← sealedB_eq s c HCC, ← HT4.out]; rfl, ((Below.refl _ _).alloc (Nat.le_refl _) _).alloc (by simp) _⟩

/-- Whether a text is a sealed one; what was sealed. -/
def opens (t : ByteArray) : Bool := decide (4 ≤ t.size ∧ sealedB (t.extract 0 (t.size - 4)) = t)
def bodyOf (t : ByteArray) : ByteArray := if opens t then t.extract 0 (t.size - 4) else ⟨#[]⟩

theorem str_ne {a b : ByteArray} (h : ¬ a = b) : (a.toList == b.toList) = false := by
  rw [ByteArray.toList_eq, ByteArray.toList_eq]
  apply Bool.eq_false_iff.2
  intro e
  exact h (ByteArray.ext (Array.toList_inj.1 (eq_of_beq e)))

set_option maxHeartbeats 400000 in
theorem open_any (t : ByteArray) (w : World) (hs : t.size ≤ 1000000) (ht : Tab w) :
    Calls Tryz.prog 138 #[.string t] w fun e w' => e = .returned (.tuple #[.string (bodyOf t), .bool (opens t)]) ∧ Below w.heap.size w w' := by
  by_cases h4 : t.size < 4
  · have ho : opens t = false := by unfold opens; simp; omega
    have hb : bodyOf t = ⟨#[]⟩ := by unfold bodyOf; rw [ho]; rfl
    have HO := Lib.hid ho
    have HB := Lib.hid hb
    clear ho hb
    go_enter Tryz.func138, Tryz.ntmps138
    go_wp2
    go_ret2
    exact ⟨by rw [HO.out, HB.out]; rfl, Below.refl _ _⟩
  · obtain ⟨x, hx⟩ : ∃ x, x = t.extract 0 (t.size - 4) := ⟨_, rfl⟩
    have hxs : x.size ≤ 1000000 := by rw [hx]; simp; omega
    have HX := Lib.hid hx
    by_cases he : sealedB x = t
    · have ho : opens t = true := by unfold opens; rw [← hx]; simp [he]; omega
      have hb : bodyOf t = x := by unfold bodyOf; rw [ho, hx]; rfl
      have HO := Lib.hid ho
      have HB := Lib.hid hb
      clear ho hb
      have hx2 := hx.symm
      clear hx
      go_enter Tryz.func138, Tryz.ntmps138
      go_wp2_with (go_at_call 92; refine (sealed_any x _ hxs ht).mono ?_; rintro e w' ⟨rfl, hw⟩)
      go_ret2
      exact ⟨by rw [HO.out, HB.out, HX.out]; rfl, hw⟩
    · have ho : opens t = false := by unfold opens; rw [← hx]; simp [he]
      have hne := str_ne he
      have hb : bodyOf t = ⟨#[]⟩ := by unfold bodyOf; rw [ho]; rfl
      have HO := Lib.hid ho
      have HB := Lib.hid hb
      clear ho hb
      have hx2 := hx.symm
      clear hx
      go_enter Tryz.func138, Tryz.ntmps138
      go_wp2_with (go_at_call 92; refine (sealed_any x _ hxs ht).mono ?_; rintro e w' ⟨rfl, hw⟩)
      go_ret2
      exact ⟨by rw [HO.out, HB.out]; rfl, hw⟩


/-- The same with the answers under names of their own: nothing is there for Lean to unfold. -/
theorem sealed_is (s t : ByteArray) (w : World) (H : Hid (sealedB s = t)) (hs : s.size ≤ 1000000) (ht : Tab w) :
    Calls Tryz.prog 92 #[.string s] w fun e w' => e = .returned (.string t) ∧ Below w.heap.size w w' := by
  have := sealed_any s w hs ht
  rwa [H.out] at this
theorem open_is (t b : ByteArray) (o : Bool) (w : World) (HB : Hid (bodyOf t = b)) (HO : Hid (opens t = o)) (hs : t.size ≤ 1000000) (ht : Tab w) :
    Calls Tryz.prog 138 #[.string t] w fun e w' => e = .returned (.tuple #[.string b, .bool o]) ∧ Below w.heap.size w w' := by
  have := open_any t w hs ht
  rwa [HB.out, HO.out] at this
/-- A text's checksum where the slice holds two texts. -/
theorem of_two (b cap : Nat) (s t : ByteArray) (c : BitVec 32) (w : World) (hs : s.size ≤ maxLen) (hs2 : t.size ≤ maxLen) (HC : Hid (crc (s.data.toList ++ t.data.toList) = c)) (ht : Tab w)
    (hc : w.cell? ⟨b, 0, none⟩ = some (.string s)) (hc2 : w.cell? ⟨b, 1, none⟩ = some (.string t)) :
    Calls Tryz.prog 114 #[.slice (some ⟨b, 0, none⟩) 2 cap] w fun e w' => e = .returned (.int .u32 (c.toNat : Int)) ∧ w = w' := by
  have := of_any b 0 cap [s, t] w (by show 2 ≤ _; unfold maxLen; omega) ht
    (fun j h => by
      match j, h with
      | 0, _ => exact hc
      | 1, _ => exact hc2)
    (fun j h => by
      match j, h with
      | 0, _ => exact hs
      | 1, _ => exact hs2)
  rwa [show flat [s, t] = s.data.toList ++ t.data.toList by simp [flat], HC.out] at this
end Go.Proofs.YteijmjbiaffcmaaGreatDoor
