/- Contracts of package wide's isNumber, and of strings.TrimPrefix and CutPrefix by a minus sign. -/
import Derived.Test.YtafgfpppemdedaaWideText
namespace Go.Proofs.Ytafgfpppemdedaa
open Go.RowKit Go.Proofs.Ytafgfpppemdedaa.Wd

abbrev minus : ByteArray := { data := #[45] }
/-- Is a minus sign ahead? The text without it. -/
def negB (s : ByteArray) : Bool := decide (s.data.toList.head? = some 45)
def body (s : ByteArray) : ByteArray := if negB s then s.extract 1 s.size else s

theorem ret_bool {a b : Bool} (h : a = b) : Ending.returned (.bool a) = .returned (.bool b) := by rw [h]
theorem ret_str {a b : ByteArray} (h : a = b) : Ending.returned (.string a) = .returned (.string b) := by rw [h]
theorem size_list (s : ByteArray) : s.size = s.data.toList.length := by simp
theorem first_is (s : ByteArray) : ((s.extract 0 1).toList == [45]) = negB s := by
  rw [ByteArray.toList_eq]
  unfold negB
  rw [Bool.eq_iff_iff]
  cases h : s.data.toList with
  | nil => simp [ByteArray.data_extract, h]
  | cons c t => simp [ByteArray.data_extract, h]

set_option maxHeartbeats 400000 in
theorem hasPrefix_is (s : ByteArray) (b : Bool) (hb : Hid (negB s = b)) (w : World) :
    Calls Try.prog 50 #[.string s, .string minus] w fun e w' => e = .returned (.bool b) ∧ w = w' := by
  have h0 : Hid (¬ (1 ≤ s.size) → negB s = false) := by
    intro h
    have : s.data.toList = [] := List.eq_nil_of_length_eq_zero (by have := size_list s; omega)
    unfold negB; rw [this]; rfl
  go_enter Try.func50, Try.ntmps50
  go_wp2
  · go_ret
    exact ⟨ret_bool ((first_is s).trans hb.out), rfl⟩
  · go_ret
    exact ⟨ret_bool ((h0.out (by omega)).symm.trans hb.out), rfl⟩
theorem neg_size (s : ByteArray) (h : negB s = true) : 1 ≤ s.size := by
  have h := of_decide_eq_true h
  rw [size_list]
  cases e : s.data.toList with
  | nil => rw [e] at h; simp at h
  | cons c t => simp

set_option maxHeartbeats 400000 in
theorem trimIn_is (s t : ByteArray) (ht : Hid (body s = t)) (w : World) :
    Calls Try.prog 49 #[.string s, .string minus] w fun e w' => e = .returned (.string t) ∧ w = w' := by
  have ht' := ht.out
  unfold body at ht'
  by_cases hn : negB s = true
  · have k := fun w => hasPrefix_is s true hn w
    rw [if_pos hn] at ht'
    have hs := neg_size s hn
    have HT := Lib.hid ht'
    clear ht' hn ht
    go_enter Try.func49, Try.ntmps49
    go_wp2_with (go_at_call 50; (with_reducible refine (k _).mono ?_); rintro e w2 ⟨rfl, rfl⟩)
    go_ret
    exact ⟨ret_str HT.out, rfl⟩
  · have hn : negB s = false := by simpa using hn
    have k := fun w => hasPrefix_is s false hn w
    rw [hn, if_neg (by simp)] at ht'
    subst ht'
    clear hn ht
    go_enter Try.func49, Try.ntmps49
    go_wp2_with (go_at_call 50; (with_reducible refine (k _).mono ?_); rintro e w2 ⟨rfl, rfl⟩)
    go_ret
    exact ⟨rfl, rfl⟩
theorem trim_is (s t : ByteArray) (ht : Hid (body s = t)) (w : World) :
    Calls Try.prog 46 #[.string s, .string minus] w fun e w' => e = .returned (.string t) ∧ w = w' := by
  have k := fun w => trimIn_is s t ht w
  clear ht
  go_enter Try.func46, Try.ntmps46
  go_wp2_with (go_at_call 49; (with_reducible refine (k _).mono ?_); rintro e w2 ⟨rfl, rfl⟩)
  go_ret
  exact ⟨rfl, rfl⟩

set_option maxHeartbeats 400000 in
theorem cutIn_is (s t : ByteArray) (b : Bool) (ht : Hid (body s = t)) (hb : Hid (negB s = b)) (w : World) :
    Calls Try.prog 47 #[.string s, .string minus] w fun e w' => e = .returned (.tuple #[.string t, .bool b]) ∧ w = w' := by
  have k := fun w => hasPrefix_is s b hb w
  have ht' := ht.out
  unfold body at ht'
  rw [hb.out] at ht'
  cases b with
  | true =>
    rw [if_pos rfl] at ht'
    have hs := neg_size s hb.out
    have HT := Lib.hid ht'
    clear ht' hb ht
    go_enter Try.func47, Try.ntmps47
    go_wp2_with (go_at_call 50; (with_reducible refine (k _).mono ?_); rintro e w2 ⟨rfl, rfl⟩)
    go_ret2
    exact ⟨by rw [← HT.out]; rfl, rfl⟩
  | false =>
    rw [if_neg (by simp)] at ht'
    subst ht'
    clear hb ht
    go_enter Try.func47, Try.ntmps47
    go_wp2_with (go_at_call 50; (with_reducible refine (k _).mono ?_); rintro e w2 ⟨rfl, rfl⟩)
    go_ret2
    exact ⟨rfl, rfl⟩
theorem cut_is (s t : ByteArray) (b : Bool) (ht : Hid (body s = t)) (hb : Hid (negB s = b)) (w : World) :
    Calls Try.prog 40 #[.string s, .string minus] w fun e w' => e = .returned (.tuple #[.string t, .bool b]) ∧ w = w' := by
  have k := fun w => cutIn_is s t b ht hb w
  clear ht hb
  go_enter Try.func40, Try.ntmps40
  go_wp2_with (go_at_call 47; (with_reducible refine (k _).mono ?_); rintro e w2 ⟨rfl, rfl⟩)
  go_ret2
  exact ⟨rfl, rfl⟩

/-- Whether a text is how some whole number is written. -/
def numB (l : List UInt8) : Bool :=
  match (if l.head? = some 45 then l.tail else l) with
  | [] => false
  | c :: t => if c = 48 then decide (l = [48]) else (c :: t).all isDig

theorem body_list (s : ByteArray) : (body s).data.toList = if s.data.toList.head? = some 45 then s.data.toList.tail else s.data.toList := by
  unfold body negB
  by_cases h : s.data.toList.head? = some 45
  · rw [if_pos (by simpa using h), if_pos h]
    simp [ByteArray.data_extract]
    rw [List.take_of_length_le (by simp)]
  · rw [if_neg (by simpa using h), if_neg h]
theorem numB_nil (s : ByteArray) (h : (body s).size = 0) : numB s.data.toList = false := by
  unfold numB
  rw [← body_list]
  have : (body s).data.toList = [] := List.eq_nil_of_length_eq_zero (by rw [← size_list]; exact h)
  rw [this]
theorem numB_cons (s : ByteArray) (h : 0 < (body s).size) : numB s.data.toList = if (body s)[0] = 48 then decide (s.data.toList = [48]) else (body s).data.toList.all isDig := by
  unfold numB
  rw [← body_list]
  cases e : (body s).data.toList with
  | nil => rw [size_list, e] at h; simp at h
  | cons c t =>
    have : (body s)[0] = c := by
      show (body s).data[0] = c
      have := List.getElem_of_eq e (i := 0) (by rw [← size_list]; exact h)
      simpa using this
    rw [this]
theorem eq_text (s : ByteArray) (l : List UInt8) : (s.toList == l) = decide (s.data.toList = l) := by
  rw [ByteArray.toList_eq, Bool.eq_iff_iff]; simp
theorem byte_eq (c : UInt8) (n : Nat) (hn : n < 256) : ((c.toNat : Int) == (n : Int)) = decide (c = UInt8.ofNat n) := by
  rw [Bool.eq_iff_iff]
  simp
  constructor
  · intro h
    have h : c.toNat = n := by omega
    rw [← h]; simp
  · intro h
    subst h
    rw [UInt8.toNat_ofNat', Nat.mod_eq_of_lt hn]
theorem byte_48 (c : UInt8) : ((c.toNat : Int) == 48) = decide (c = 48) := byte_eq c 48 (by decide)
theorem byte_45 (c : UInt8) : ((c.toNat : Int) == 45) = decide (c = 45) := byte_eq c 45 (by decide)
theorem all_snoc (s : ByteArray) (k : Nat) (h : k < s.size) : (s.data.toList.take (k + 1)).all isDig = ((s.data.toList.take k).all isDig && isDig s[k]) := by
  rw [List.take_succ_eq_append_getElem (by simpa using h), List.all_append]
  simp; rfl

set_option maxHeartbeats 400000 in
theorem isNumber_is (s : ByteArray) (b : Bool) (hs : s.size ≤ 1000) (hb : Hid (numB s.data.toList = b)) (w : World) :
    Calls Try.prog 39 #[.string s] w fun e w' => e = .returned (.bool b) ∧ w = w' := by
  obtain ⟨t, ht⟩ : ∃ t, body s = t := ⟨_, rfl⟩
  have HT := Lib.hid ht
  have hts : t.size ≤ 1000 := by
    rw [← ht]; unfold body
    split
    · simp; omega
    · exact hs
  have k := fun w => trim_is s t HT w
  by_cases h0 : t.size = 0
  · have hb' := numB_nil s (by rw [ht]; exact h0)
    obtain rfl : b = false := hb.out.symm.trans hb'
    have he : t.toList.isEmpty = true := by
      rw [ByteArray.toList_eq, List.eq_nil_of_length_eq_zero (l := t.data.toList) (by rw [← size_list]; exact h0)]; rfl
    clear hb' ht hb h0
    go_enter Try.func39, Try.ntmps39
    go_wp2_with (go_at_call 46; (with_reducible refine (k _).mono ?_); rintro e w2 ⟨rfl, rfl⟩)
    go_ret
    exact ⟨rfl, rfl⟩
  · have hpos : 0 < t.size := by omega
    have he : t.toList.isEmpty = false := by
      rw [ByteArray.toList_eq]
      cases e : t.data.toList with
      | nil => rw [size_list, e] at hpos; simp at hpos
      | cons c r => rfl
    have hb' := numB_cons s (by rw [ht]; exact hpos)
    simp only [ht] at hb'
    by_cases hz : t[0] = 48
    · have hz2 : ((t[0].toNat : Int) == 48) = true := by rw [byte_48]; simpa using hz
      have HB : Hid (b = decide (s.data.toList = [48])) := by show _ = _; rw [← hb.out, hb', if_pos hz]
      clear hb' ht hb h0 hz
      go_enter Try.func39, Try.ntmps39
      go_wp2_with (go_at_call 46; (with_reducible refine (k _).mono ?_); rintro e w2 ⟨rfl, rfl⟩)
      go_ret
      exact ⟨ret_bool ((eq_text s [48]).trans HB.out.symm), rfl⟩
    · have hz2 : ((t[0].toNat : Int) == 48) = false := by rw [byte_48]; simpa using hz
      have HB : Hid (b = t.data.toList.all isDig) := by show _ = _; rw [← hb.out, hb', if_neg hz]
      clear hb' ht hb h0 hz
      go_enter Try.func39, Try.ntmps39
      go_wp2_with (go_at_call 46; (with_reducible refine (k _).mono ?_); rintro e w2 ⟨rfl, rfl⟩)
      go_loop [16] (fun i => ∃ k : Nat, k ≤ t.size ∧ i = .int .i64 (k : Int) ∧ (t.data.toList.take k).all isDig = true) (fun i => t.size - (intOf i).toNat)
      case atStart => exact ⟨0, Nat.zero_le _, rfl, rfl⟩
      case round =>
        obtain ⟨k, hk, rfl, hall⟩ := hrel
        have HA := Lib.hid hall
        clear hall
        by_cases hlt : k < t.size
        · have HS := Lib.hid (all_snoc t k hlt)
          by_cases hd : 48 ≤ t[k].toNat ∧ t[k].toNat ≤ 57
          · obtain ⟨d1, d2⟩ := hd
            have HD : Hid (isDig t[k] = true) := by show _ = _; unfold isDig; simp; omega
            have d1' : ¬ ((t[k].toNat : Int) < 48) := by omega
            have d2' : ¬ (57 < (t[k].toNat : Int)) := by omega
            go_wp2
            go_round
            case rel => exact ⟨k + 1, by omega, by go_num, by rw [HS.out, HA.out, HD.out]; rfl⟩
            case measure => simp [intOf]; omega
          · have HD : Hid (isDig t[k] = false) := by show _ = _; unfold isDig; simp; omega
            have HF : Hid (t.data.toList.all isDig = false) := by
              show _ = _
              have := HS.out
              rw [HD.out, Bool.and_false] at this
              have e : t.data.toList = t.data.toList.take (k + 1) ++ t.data.toList.drop (k + 1) := (List.take_append_drop _ _).symm
              rw [e, List.all_append, this]; rfl
            by_cases hd1 : t[k].toNat < 48
            · have d1' : ((t[k].toNat : Int) < 48) := by omega
              clear hd
              go_wp2
              go_ret
              exact ⟨ret_bool (HF.out.symm.trans HB.out.symm), rfl⟩
            · have d1' : ¬ ((t[k].toNat : Int) < 48) := by omega
              have d2' : (57 < (t[k].toNat : Int)) := by omega
              clear hd
              go_wp2
              go_ret
              exact ⟨ret_bool (HF.out.symm.trans HB.out.symm), rfl⟩
        · have e : k = t.size := by omega
          subst e
          have HF : Hid (t.data.toList.all isDig = true) := by
            have := HA.out
            rw [List.take_of_length_le (by simp)] at this
            exact this
          go_wp2
          go_ret
          exact ⟨ret_bool (HF.out.symm.trans HB.out.symm), rfl⟩
end Go.Proofs.Ytafgfpppemdedaa
