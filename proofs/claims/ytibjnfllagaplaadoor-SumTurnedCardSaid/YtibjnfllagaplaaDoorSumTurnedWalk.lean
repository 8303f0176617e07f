/- The walk of law SumTurned: it returns true and turns nothing that was there. -/
import Derived.Test.YtibjnfllagaplaaDoorSumAwake
import Derived.Test.YtibjnfllagaplaaDoorBytesOf
import Derived.OpenShut
namespace Go.Proofs.YtibjnfllagaplaaDoor.sumTurned
open Go.RowKit Go.Proofs.YtibjnfllagaplaaDoor.Crc

/-- What the loop has done: the bytes stand in block b; their state is that of the text, with what the turned bits make of it. -/
structure Turned (wr : World) (b m n k : Nat) (u : List UInt8) (W : BitVec 32) (l : List UInt8) : Prop where
  at_ : BytesAt wr b l
  len : l.length = m
  state : st 4294967295#32 l = st 4294967295#32 u ^^^ turned W m n k

/-- The loop's relation. -/
structure Rel (w wr : World) (b n k : Nat) (s : ByteArray) (bv : BitVec 32) : Prop where
  below : Below w.heap.size w wr
  room : w.heap.size ≤ b
  size : b < wr.heap.size
  ex : ∃ l, Turned wr b s.size n k s.data.toList bv l
theorem Rel.start {w w1 w2 : World} {n : Nat} {s : ByteArray} {bv : BitVec 32} (h : Below w.heap.size w w2) (hz : w1.heap.size < w2.heap.size) (hb : BytesAt w2 w1.heap.size s.data.toList) (hr : w.heap.size ≤ w1.heap.size) : Rel w w2 w1.heap.size n 0 s bv :=
  ⟨h, hr, hz, s.data.toList, hb, by simp, by rw [turned_zero]; simp⟩
/-- What a round finds, and what it leaves. -/
theorem Rel.open_ {w wr : World} {b n k : Nat} {s : ByteArray} {bv : BitVec 32} (h : Rel w wr b n k s bv) (hnm : n + 32 ≤ 8 * s.size) (hk : k < 32) :
    ∃ c : UInt8, wr.cell? ⟨b, (n + k) / 8, none⟩ = some (.int .u8 (c.toNat : Int)) ∧ wr.frozen? ⟨b, (n + k) / 8, none⟩ = false ∧
      (bv.getLsbD k = false → Rel w wr b n (k + 1) s bv) ∧
      (bv.getLsbD k = true → Rel w (wr.setCell ⟨b, (n + k) / 8, none⟩ (.int .u8 ((c ^^^ UInt8.ofNat (2 ^ ((n + k) % 8))).toNat : Int))) b n (k + 1) s bv) := by
  obtain ⟨hb, hr, hz, l, hat, hlen, hst⟩ := h
  have hq : (n + k) / 8 < l.length := by omega
  refine ⟨l[(n + k) / 8], (hat _ hq).1, (hat _ hq).2, fun hbit => ⟨hb, hr, hz, l, hat, hlen, ?_⟩, fun hbit => ⟨hb.setCell (p := ⟨b, (n + k) / 8, none⟩) hr _, hr, ?_, l.set ((n + k) / 8) (l[(n + k) / 8] ^^^ UInt8.ofNat (2 ^ ((n + k) % 8))), hat.stored _ _ _ rfl, by simpa using hlen, ?_⟩⟩
  · rw [turned_skip _ _ _ _ hbit]; exact hst
  · simpa [World.setCell] using hz
  · rw [st_set _ _ _ hq, hst, turned_bit _ _ _ _ hk hnm hbit, hlen, BitVec.xor_assoc]

/-- The end of the loop: the text that stands in the block, and that its checksum is another one. -/
theorem Rel.close {w wr : World} {b n k : Nat} {s : ByteArray} {bv : BitVec 32} (h : Rel w wr b n k s bv) (hk : k = 32) (hbv : bv ≠ 0#32) (cap : Nat) :
    ∃ (v : ByteArray) (c d : BitVec 32), v.size = s.size ∧ (convert 39 9 (.slice (some ⟨b, 0, none⟩) s.size cap)).run Tryd.prog wr = .ok (.string v) wr ∧ Hid (crc v.data.toList = c) ∧ Hid (crc s.data.toList = d) ∧ ((c.toNat : Int) != (d.toNat : Int)) = true := by
  obtain ⟨hb, hr, hz, l, hat, hlen, hst⟩ := h
  refine ⟨⟨l.toArray⟩, _, _, ?_, hat.back 39 9 5 Tryd.underlying39 Tryd.underlying5 Tryd.underlying9 s.size cap hlen.symm, rfl, rfl, ?_⟩
  · show l.toArray.size = _
    rw [List.size_toArray, hlen]
  · apply bne_iff_ne.2
    intro e
    have e1 : (crc l).toNat = (crc s.data.toList).toNat := by
      exact Int.ofNat_inj.1 e
    have e2 := not_inj (BitVec.eq_of_toNat_eq e1)
    rw [hst, hk] at e2
    exact xor_ne (turned_ne _ _ _ hbv) e2

/-- A bit of the 32, as the loop asks for it. -/
theorem bit_is (bv : BitVec 32) (k : Nat) : bits .and .u32 ((bv.toNat : Int) / 2 ^ k) 1 = if bv.getLsbD k then 1 else 0 := by
  have e : (bv.toNat : Int) / 2 ^ k = ((bv.toNat / 2 ^ k : Nat) : Int) := by simp
  have hlt : bv.toNat / 2 ^ k < 4294967296 := Nat.lt_of_le_of_lt (Nat.div_le_self _ _) bv.isLt
  rw [e]
  have := u32_and_nat (bv.toNat / 2 ^ k) 1 hlt (by decide)
  rw [show ((1 : Nat) : Int) = 1 from rfl] at this
  rw [this, BitVec.getLsbD, Nat.testBit_eq_decide_div_mod_eq, Nat.and_one_is_mod]
  have h2 : bv.toNat / 2 ^ k % 2 < 2 := Nat.mod_lt _ (by decide)
  by_cases h1 : bv.toNat / 2 ^ k % 2 = 1
  · rw [h1]; rfl
  · rw [show bv.toNat / 2 ^ k % 2 = 0 by omega]; rfl
theorem pow_is (c : UInt8) (r : Nat) (hr : r < 8) : bits .xor .u8 (c.toNat : Int) (2 ^ r % 256) = ((c ^^^ UInt8.ofNat (2 ^ r)).toNat : Int) := by
  have h : ∀ r : Fin 8, (2 : Int) ^ r.val % 256 = ((UInt8.ofNat (2 ^ r.val)).toNat : Int) := by decide +kernel
  rw [show (2 : Int) ^ r % 256 = ((UInt8.ofNat (2 ^ r)).toNat : Int) from h ⟨r, hr⟩, xor8_is]

theorem short_walk (s0 : ByteArray) (at_ bn : Int) (w : World) (s : ByteArray) (short1 : ∀ w, Calls Tryd.prog 10 #[.string s0, .int .i64 500] w fun e w' => e = .returned (.string s) ∧ w = w') (ht : Tab w) (h : s.size < 5 ∨ bn = 0) :
    Calls Tryd.prog 6 #[.string s0, .int .i64 at_, .int .u32 bn] w fun e w' => e = .returned (.bool true) ∧ Below w.heap.size w w' := by
  by_cases h5 : s.size < 5
  · clear h
    go_enter Tryd.func6, Tryd.ntmps6
    go_wp2_with (first
      | (go_at_call 9; with_reducible refine (awake_any _ ht).mono ?_; rintro e w1 ⟨rfl, hw1⟩; have ht1 := ht.next hw1)
      | (go_at_call 10; with_reducible refine (short1 _).mono ?_; rintro e w2 ⟨rfl, rfl⟩))
    go_ret
    exact ⟨rfl, by assumption⟩
  · obtain rfl : bn = 0 := by omega
    clear h
    go_enter Tryd.func6, Tryd.ntmps6
    go_wp2_with (first
      | (go_at_call 9; with_reducible refine (awake_any _ ht).mono ?_; rintro e w1 ⟨rfl, hw1⟩; have ht1 := ht.next hw1)
      | (go_at_call 10; with_reducible refine (short1 _).mono ?_; rintro e w2 ⟨rfl, rfl⟩))
    go_ret
    exact ⟨rfl, by assumption⟩

set_option maxHeartbeats 1000000 in
theorem long_walk (s0 : ByteArray) (at_ : Int) (bv : BitVec 32) (w : World) (s : ByteArray) (short1 : ∀ w, Calls Tryd.prog 10 #[.string s0, .int .i64 500] w fun e w' => e = .returned (.string s) ∧ w = w') (ht : Tab w)
    (h5 : 5 ≤ s.size) (g1 : s.size ≤ 500) (hb : (((bv.toNat : Nat) : Int) == 0) = false) (hat : -9223372036854775808 ≤ at_ ∧ at_ ≤ 9223372036854775807) (hbv : bv ≠ 0#32) :
    Calls Tryd.prog 6 #[.string s0, .int .i64 at_, .int .u32 (bv.toNat : Int)] w fun e w' => e = .returned (.bool true) ∧ Below w.heap.size w w' := by
  obtain ⟨m, hm⟩ : ∃ m, m = 8 * s.size - 31 := ⟨_, rfl⟩
  have hm2 : (8 : Int) * (s.size : Int) - 31 = (m : Int) := by omega
  obtain ⟨n, hn, hp, hq⟩ := place at_ m (by omega)
  have hnm : n + 32 ≤ 8 * s.size := by omega
  clear hm
  have HBV := Lib.hid hbv
  clear hbv
  by_cases hneg : at_ < 0
  · have hmod := hq hneg
    clear hp hq
    go_enter Tryd.func6, Tryd.ntmps6
    go_wp2_with (first
      | (go_at_call 9; with_reducible refine (awake_any _ ht).mono ?_; rintro e w1 ⟨rfl, hw1⟩; have ht1 := ht.next hw1; obtain ⟨cap, w2, hcap, hconv, hb2, hby, hz2⟩ := bytes_made Tryd.prog 9 39 5 s Tryd.underlying9 Tryd.underlying39 Tryd.underlying5 w1; have HBY := Lib.hid hby; clear hby)
      | (go_at_call 10; with_reducible refine (short1 _).mono ?_; rintro e w2 ⟨rfl, rfl⟩))
    go_loopw [10] (fun i wr => ∃ k : Nat, k ≤ 32 ∧ i = .int .i64 k ∧ Rel w wr w1.heap.size n k s bv) (fun i _ => 32 - (intOf i).toNat)
    case atStart => exact ⟨0, by omega, rfl, Rel.start (below_next hw1 hb2) hz2 HBY.out hw1.size⟩
    case round =>
      obtain ⟨k, hk, rfl, hR⟩ := hrel
      by_cases hlt : k < 32
      · obtain ⟨c, hcell, hfree, hskip, hturn⟩ := hR.open_ hnm hlt
        have hqs : (n + k) / 8 < s.size := by omega
        have HSK := Lib.hid hskip
        have HTU := Lib.hid hturn
        clear hskip hturn
        have hpow := pow_is c ((n + k) % 8) (Nat.mod_lt _ (by decide))
        have hbit := bit_is bv k
        cases hbk : bv.getLsbD k
        · rw [hbk] at hbit
          have HS1 := Lib.hid (HSK.out hbk)
          have hbit0 : bits .and .u32 ((bv.toNat : Int) / 2 ^ k) 1 = 0 := hbit
          clear hbit hbk HSK HTU
          go_wp2
          go_roundw
          case rel => exact ⟨k + 1, by omega, by go_num, HS1.out⟩
          case measure => simp [intOf]; omega
        · rw [hbk] at hbit
          have HS1 := Lib.hid (HTU.out hbk)
          have hbit0 : bits .and .u32 ((bv.toNat : Int) / 2 ^ k) 1 = 1 := hbit
          clear hbit hbk HSK HTU
          go_wp2
          go_roundw
          case rel => exact ⟨k + 1, by omega, by go_num, HS1.out⟩
          case measure => simp [intOf]; omega
      · obtain ⟨v, c, d, hvs, hback, HC, HD, hne⟩ := hR.close (by omega) HBV.out cap
        have hvs2 : v.size ≤ maxLen := by rw [hvs]; unfold maxLen; omega
        have hss2 : s.size ≤ maxLen := by unfold maxLen; omega
        clear hvs
        have hbel := hR.below
        have htr := ht.next hbel
        go_wp2_with (first
          | (go_at_call 11; with_reducible refine (of_one _ _ v c _ hvs2 HC (Tab.alloc (by assumption) _) (by simp [go_sem])).mono ?_; rintro e w4 ⟨rfl, rfl⟩)
          | (go_at_call 11; with_reducible refine (of_one _ _ s d _ hss2 HD (Tab.alloc (Tab.alloc (by assumption) _) _) (by simp [go_sem])).mono ?_; rintro e w4 ⟨rfl, rfl⟩))
        go_ret
        exact ⟨rfl, below_new (below_new hbel _) _⟩
  · have hmod := hp (by omega)
    have hge : 0 ≤ at_ := by omega
    clear hp hq hneg
    go_enter Tryd.func6, Tryd.ntmps6
    go_wp2_with (first
      | (go_at_call 9; with_reducible refine (awake_any _ ht).mono ?_; rintro e w1 ⟨rfl, hw1⟩; have ht1 := ht.next hw1; obtain ⟨cap, w2, hcap, hconv, hb2, hby, hz2⟩ := bytes_made Tryd.prog 9 39 5 s Tryd.underlying9 Tryd.underlying39 Tryd.underlying5 w1; have HBY := Lib.hid hby; clear hby)
      | (go_at_call 10; with_reducible refine (short1 _).mono ?_; rintro e w2 ⟨rfl, rfl⟩))
    go_loopw [10] (fun i wr => ∃ k : Nat, k ≤ 32 ∧ i = .int .i64 k ∧ Rel w wr w1.heap.size n k s bv) (fun i _ => 32 - (intOf i).toNat)
    case atStart => exact ⟨0, by omega, rfl, Rel.start (below_next hw1 hb2) hz2 HBY.out hw1.size⟩
    case round =>
      obtain ⟨k, hk, rfl, hR⟩ := hrel
      by_cases hlt : k < 32
      · obtain ⟨c, hcell, hfree, hskip, hturn⟩ := hR.open_ hnm hlt
        have hqs : (n + k) / 8 < s.size := by omega
        have HSK := Lib.hid hskip
        have HTU := Lib.hid hturn
        clear hskip hturn
        have hpow := pow_is c ((n + k) % 8) (Nat.mod_lt _ (by decide))
        have hbit := bit_is bv k
        cases hbk : bv.getLsbD k
        · rw [hbk] at hbit
          have HS1 := Lib.hid (HSK.out hbk)
          have hbit0 : bits .and .u32 ((bv.toNat : Int) / 2 ^ k) 1 = 0 := hbit
          clear hbit hbk HSK HTU
          go_wp2
          go_roundw
          case rel => exact ⟨k + 1, by omega, by go_num, HS1.out⟩
          case measure => simp [intOf]; omega
        · rw [hbk] at hbit
          have HS1 := Lib.hid (HTU.out hbk)
          have hbit0 : bits .and .u32 ((bv.toNat : Int) / 2 ^ k) 1 = 1 := hbit
          clear hbit hbk HSK HTU
          go_wp2
          go_roundw
          case rel => exact ⟨k + 1, by omega, by go_num, HS1.out⟩
          case measure => simp [intOf]; omega
      · obtain ⟨v, c, d, hvs, hback, HC, HD, hne⟩ := hR.close (by omega) HBV.out cap
        have hvs2 : v.size ≤ maxLen := by rw [hvs]; unfold maxLen; omega
        have hss2 : s.size ≤ maxLen := by unfold maxLen; omega
        clear hvs
        have hbel := hR.below
        have htr := ht.next hbel
        go_wp2_with (first
          | (go_at_call 11; with_reducible refine (of_one _ _ v c _ hvs2 HC (Tab.alloc (by assumption) _) (by simp [go_sem])).mono ?_; rintro e w4 ⟨rfl, rfl⟩)
          | (go_at_call 11; with_reducible refine (of_one _ _ s d _ hss2 HD (Tab.alloc (Tab.alloc (by assumption) _) _) (by simp [go_sem])).mono ?_; rintro e w4 ⟨rfl, rfl⟩))
        go_ret
        exact ⟨rfl, below_new (below_new hbel _) _⟩

theorem walk (s0 : ByteArray) (at_ bn : Int) (w : World) (_hs : s0.size ≤ maxLen) (hat : (Lit.int .i64 at_).wf = true) (hbn : (Lit.int .u32 bn).wf = true) (ht : Tab w) :
    Calls Tryd.prog 6 #[.string s0, .int .i64 at_, .int .u32 bn] w fun e w' => e = .returned (.bool true) ∧ Below w.heap.size w w' := by
  have hat2 := bounds_i64 hat
  have hbn2 := bounds_u32 hbn
  obtain ⟨s, g1, _, short1⟩ := short_any s0 500 500 rfl (by decide)
  by_cases h : s.size < 5 ∨ bn = 0
  · exact short_walk s0 at_ bn w s short1 ht h
  · have e : bn = (((BitVec.ofNat 32 bn.toNat).toNat : Nat) : Int) := by
      rw [BitVec.toNat_ofNat, Nat.mod_eq_of_lt (by omega)]; omega
    have hne : bn ≠ 0 := fun h0 => h (Or.inr h0)
    have := long_walk s0 at_ (BitVec.ofNat 32 bn.toNat) w s short1 ht (by omega) g1 (by rw [← e]; simpa using hne) hat2 (fun h0 => by
      rw [h0] at e
      exact hne e)
    rwa [← e] at this
end Go.Proofs.YtibjnfllagaplaaDoor.sumTurned
