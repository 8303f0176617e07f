/- The walk of law VintBack: it returns true and turns nothing that was there. -/
import Derived.Test.YtddjoddbdinpaaaVintAwake
namespace Go.Proofs.Ytddjoddbdinpaaa.vintBack
open Go.RowKit Go.Proofs.Ytddjoddbdinpaaa Go.Proofs.Ytddjoddbdinpaaa.Vi

theorem getR_put (p q : List UInt8) (n : Nat) (hn : n < 18446744073709551616) : getR (p ++ (enc n ++ q)) (p.length : Int) = ((n : Int), (p.length : Int) + ((enc n).length : Int), 0) := by
  unfold getR
  rw [if_neg (by omega), Int.toNat_natCast, List.drop_left, getL_enc n 0 q (by omega) hn (by omega)]
theorem list_tx (l : List UInt8) : (tx l).data.toList = l := by simp [tx]
theorem app_list (s t : ByteArray) : (s ++ t).data.toList = s.data.toList ++ t.data.toList := by simp [ByteArray.data_append]
theorem eql_str {a b : ByteArray} (h : ¬ a = b) : (a.toList == b.toList) = false := by
  rw [ByteArray.toList_eq, ByteArray.toList_eq]
  apply Bool.eq_false_iff.2
  intro e
  exact h (ByteArray.ext (Array.toList_inj.1 (eq_of_beq e)))

set_option maxHeartbeats 8000000 in
theorem walk (n0 n1 : Int) (s2 : ByteArray) (w : World) (h0 : 0 ≤ n0 ∧ n0 ≤ 18446744073709551615) (h1 : 0 ≤ n1 ∧ n1 ≤ 18446744073709551615) (_hs : s2.size ≤ maxLen) :
    Calls Try.prog 6 #[.int .u64 n0, .int .u64 n1, .string s2] w fun e w' => e = .returned (.bool true) ∧ Below w.heap.size w w' := by
  obtain ⟨a, rfl⟩ := Int.eq_ofNat_of_zero_le h0.1
  obtain ⟨b, rfl⟩ := Int.eq_ofNat_of_zero_le h1.1
  obtain ⟨h, hh⟩ : ∃ h, cutB s2 50 = h := ⟨_, rfl⟩
  have hhz : h.size ≤ 50 := by rw [← hh]; exact (cutB_size s2 50).1
  obtain ⟨s, hs⟩ : ∃ s, tx (enc a) = s := ⟨_, rfl⟩
  obtain ⟨t, ht⟩ : ∃ t, tx (enc b) = t := ⟨_, rfl⟩
  have hsz : s.size = (enc a).length := by rw [← hs, tx_size]
  have htz : t.size = (enc b).length := by rw [← ht, tx_size]
  have hs10 : s.size ≤ 10 := by rw [hsz]; exact enc_len10 a (by omega)
  have ht10 : t.size ≤ 10 := by rw [htz]; exact enc_len10 b (by omega)
  have hsl : s.data.toList = enc a := by rw [← hs, list_tx]
  have htl : t.data.toList = enc b := by rw [← ht, list_tx]
  obtain ⟨x, hx⟩ : ∃ x, h ++ s = x := ⟨_, rfl⟩
  have hxz : x.size = h.size + s.size := by rw [← hx]; simp
  obtain ⟨y, hy⟩ : ∃ y, x ++ t = y := ⟨_, rfl⟩
  have hyz : y.size = x.size + t.size := by rw [← hy]; simp
  have hhl : h.data.toList.length = h.size := by simp
  have r1 : getR y.data.toList (h.size : Int) = ((a : Int), (h.size : Int) + (s.size : Int), 0) := by
    have := getR_put h.data.toList (enc b) a (by omega)
    rw [hhl, ← hsl, ← htl] at this
    rw [← hy, ← hx, app_list, app_list, List.append_assoc, this, hsz, hsl]
  have r2 : getR y.data.toList ((h.size : Int) + (s.size : Int)) = ((b : Int), (h.size : Int) + (s.size : Int) + (t.size : Int), 0) := by
    have := getR_put (h.data.toList ++ enc a) [] b (by omega)
    rw [List.append_nil, List.length_append, hhl, ← hsz] at this
    rw [← hy, ← hx, app_list, app_list, hsl, htl]
    rw [show (h.size : Int) + (s.size : Int) = ((h.size + s.size : Nat) : Int) by omega, this, htz]
  obtain ⟨c, hc⟩ : ∃ c, wrap64 (a : Int) = c := ⟨_, rfl⟩
  have hcb : -9223372036854775808 ≤ c ∧ c ≤ 9223372036854775807 := by rw [← hc, wrap64_is]; omega
  obtain ⟨z, hz⟩ : ∃ z, zig c = z := ⟨_, rfl⟩
  have hzb := zig_bounds c hcb.1 hcb.2
  obtain ⟨g, hg⟩ : ∃ g, zag (a : Int) = g := ⟨_, rfl⟩
  have hgb := zag_bounds (a : Int) (by omega) (by omega)
  have k1 := fun w => short_is s2 h 50 50 w rfl (by omega) (Lib.hid hh)
  have k2 := fun w => put_is a s w (by omega) (Lib.hid hs)
  have k3 := fun w => put_is b t w (by omega) (Lib.hid ht)
  have k4 := fun w => get_is y h.size a _ 0 w (by unfold maxLen; omega) (by omega) (by omega) (Lib.hid r1)
  have k5 := fun w => get_is y _ b _ 0 w (by unfold maxLen; omega) (by omega) (by omega) (Lib.hid r2)
  have k6 := fun w => zig_any c w hcb.1 hcb.2
  have k7 := fun w => zag_any (zig c) w hzb.1 hzb.2
  have k8 := fun w => zag_any (a : Int) w (by omega) (by omega)
  have k9 := fun w => zig_any (zag (a : Int)) w hgb.1 hgb.2
  rw [hz, ← hz, zag_zig, hz] at k7
  rw [zig_zag _ (by omega), hg] at k9
  rw [hz] at k6
  rw [hg] at k8
  have hmono : a ≤ b → s.size ≤ t.size := fun hab => by rw [hsz, htz]; exact enc_mono a b hab
  have hinj : s = t → a = b := fun e => enc_inj (tx_inj (by rw [hs, ht, e]))
  have z1 : h.size + s.size ≤ 9223372036854775807 := by omega
  have z2 : x.size + t.size ≤ 9223372036854775807 := by omega
  clear hh hsz htz hsl htl hhl r1 r2 hz hg hzb hgb hcb hxz hyz
  by_cases hab : a = b
  · subst hab
    have hst : s = t := hs.symm.trans ht
    subst hst
    clear hmono hinj hs ht
    go_enter Try.func6, Try.ntmps6
    go_wp2_with (first
      | (go_at_call 10; (with_reducible refine (awake_any _).mono ?_); rintro e w1 ⟨rfl, hb1⟩)
      | (go_at_call 11; (with_reducible refine (k1 _).mono ?_); rintro e w2 ⟨rfl, rfl⟩)
      | (go_at_call 12; first | ((with_reducible refine (k2 w1).mono ?_); rintro e w2 ⟨rfl, hb2⟩) | ((with_reducible refine (k2 _).mono ?_); rintro e w3 ⟨rfl, hb3⟩))
      | (go_at_call 22; first | ((with_reducible refine (k4 _).mono ?_); rintro e w2 ⟨rfl, rfl⟩) | ((with_reducible refine (k5 _).mono ?_); rintro e w2 ⟨rfl, rfl⟩))
      | (go_at_call 14; first | ((with_reducible refine (k6 _).mono ?_); rintro e w2 ⟨rfl, rfl⟩) | ((with_reducible refine (k9 _).mono ?_); rintro e w2 ⟨rfl, rfl⟩))
      | (go_at_call 16; first | ((with_reducible refine (k7 _).mono ?_); rintro e w2 ⟨rfl, rfl⟩) | ((with_reducible refine (k8 _).mono ?_); rintro e w2 ⟨rfl, rfl⟩)))
    go_ret
    exact ⟨rfl, (hb1.trans (hb2.mono hb1.size)).trans (hb3.mono (Nat.le_trans hb1.size hb2.size))⟩
  · have hne := eql_str fun e => hab (hinj e)
    have hne2 : ((a : Int) == (b : Int)) = false := by simp; omega
    by_cases hlt : a < b
    · have hle : (s.size : Int) ≤ (t.size : Int) := by have := hmono (by omega); omega
      have hlt2 : ¬ (b : Int) < (a : Int) := by omega
      clear hmono hinj hs ht hab hlt
      go_enter Try.func6, Try.ntmps6
      go_wp2_with (first
        | (go_at_call 10; (with_reducible refine (awake_any _).mono ?_); rintro e w1 ⟨rfl, hb1⟩)
        | (go_at_call 11; (with_reducible refine (k1 _).mono ?_); rintro e w2 ⟨rfl, rfl⟩)
        | (go_at_call 12; first | ((with_reducible refine (k2 w1).mono ?_); rintro e w2 ⟨rfl, hb2⟩) | ((with_reducible refine (k3 _).mono ?_); rintro e w3 ⟨rfl, hb3⟩))
        | (go_at_call 22; first | ((with_reducible refine (k4 _).mono ?_); rintro e w2 ⟨rfl, rfl⟩) | ((with_reducible refine (k5 _).mono ?_); rintro e w2 ⟨rfl, rfl⟩))
        | (go_at_call 14; first | ((with_reducible refine (k6 _).mono ?_); rintro e w2 ⟨rfl, rfl⟩) | ((with_reducible refine (k9 _).mono ?_); rintro e w2 ⟨rfl, rfl⟩))
        | (go_at_call 16; first | ((with_reducible refine (k7 _).mono ?_); rintro e w2 ⟨rfl, rfl⟩) | ((with_reducible refine (k8 _).mono ?_); rintro e w2 ⟨rfl, rfl⟩)))
      go_ret
      exact ⟨rfl, (hb1.trans (hb2.mono hb1.size)).trans (hb3.mono (Nat.le_trans hb1.size hb2.size))⟩
    · have hlt2 : (b : Int) < (a : Int) := by omega
      clear hmono hinj hs ht hab hlt
      go_enter Try.func6, Try.ntmps6
      go_wp2_with (first
        | (go_at_call 10; (with_reducible refine (awake_any _).mono ?_); rintro e w1 ⟨rfl, hb1⟩)
        | (go_at_call 11; (with_reducible refine (k1 _).mono ?_); rintro e w2 ⟨rfl, rfl⟩)
        | (go_at_call 12; first | ((with_reducible refine (k2 w1).mono ?_); rintro e w2 ⟨rfl, hb2⟩) | ((with_reducible refine (k3 _).mono ?_); rintro e w3 ⟨rfl, hb3⟩))
        | (go_at_call 22; first | ((with_reducible refine (k4 _).mono ?_); rintro e w2 ⟨rfl, rfl⟩) | ((with_reducible refine (k5 _).mono ?_); rintro e w2 ⟨rfl, rfl⟩))
        | (go_at_call 14; first | ((with_reducible refine (k6 _).mono ?_); rintro e w2 ⟨rfl, rfl⟩) | ((with_reducible refine (k9 _).mono ?_); rintro e w2 ⟨rfl, rfl⟩))
        | (go_at_call 16; first | ((with_reducible refine (k7 _).mono ?_); rintro e w2 ⟨rfl, rfl⟩) | ((with_reducible refine (k8 _).mono ?_); rintro e w2 ⟨rfl, rfl⟩)))
      go_ret
      exact ⟨rfl, (hb1.trans (hb2.mono hb1.size)).trans (hb3.mono (Nat.le_trans hb1.size hb2.size))⟩
end Go.Proofs.Ytddjoddbdinpaaa.vintBack
