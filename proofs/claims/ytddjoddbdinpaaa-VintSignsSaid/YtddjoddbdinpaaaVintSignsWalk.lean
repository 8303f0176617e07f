/- The walk of law VintSigns: it returns true and turns nothing that was there. -/
import Derived.Test.YtddjoddbdinpaaaVintAwake
namespace Go.Proofs.Ytddjoddbdinpaaa.vintSigns
open Go.RowKit Go.Proofs.Ytddjoddbdinpaaa Go.Proofs.Ytddjoddbdinpaaa.Vi

theorem eql_str {a b : ByteArray} (h : ¬ a = b) : (a.toList == b.toList) = false := by
  rw [ByteArray.toList_eq, ByteArray.toList_eq]
  apply Bool.eq_false_iff.2
  intro e
  exact h (ByteArray.ext (Array.toList_inj.1 (eq_of_beq e)))

/-- What the law asks of its two texts. -/
structure Facts (a b : Int) (s t : ByteArray) : Prop where
  same : s = t ↔ a = b
  near : (0 ≤ a ∧ 0 ≤ b ∧ a ≤ b) ∨ (a < 0 ∧ b < 0 ∧ b ≤ a) → s.size ≤ t.size
theorem facts {a b : Int} {s t : ByteArray} (ha : -9223372036854775808 ≤ a ∧ a ≤ 9223372036854775807) (hb : -9223372036854775808 ≤ b ∧ b ≤ 9223372036854775807) (hs : tx (encs [a]) = s) (ht : tx (encs [b]) = t) : Facts a b s t := by
  obtain ⟨p1, p2⟩ := zig_bounds a ha.1 ha.2
  obtain ⟨q1, q2⟩ := zig_bounds b hb.1 hb.2
  refine ⟨⟨fun e => ?_, fun e => by rw [← hs, ← ht, e]⟩, fun h => ?_⟩
  · have := enc_inj (show enc (zig a).toNat = enc (zig b).toNat by rw [← encs_one, ← encs_one]; exact tx_inj (by rw [hs, ht, e]))
    rw [← zag_zig a, ← zag_zig b, show zig a = zig b by omega]
  · rw [← hs, ← ht, tx_size, tx_size, encs_one, encs_one]
    apply enc_mono
    unfold zig
    rcases h with ⟨h1, h2, h3⟩ | ⟨h1, h2, h3⟩
    · rw [if_pos h1, if_pos h2]; omega
    · rw [if_neg (by omega), if_neg (by omega)]; omega

theorem signs_below {w w1 w2 w3 w4 : World} {o1 o2 o3 : Obj} (h1 : Below w.heap.size w w1) (h2 : Below (w1.alloc o1).heap.size (w1.alloc o1) w2) (h3 : Below (w2.alloc o2).heap.size (w2.alloc o2) w3) (h4 : Below (w3.alloc o3).heap.size (w3.alloc o3) w4) : Below w.heap.size w w4 := by
  have g1 := h1.size
  have g2 := h2.size
  have g3 := h3.size
  simp at g2 g3
  exact (((((h1.alloc g1 o1).trans (h2.mono (by simp; omega))).alloc (by omega) o2).trans (h3.mono (by simp; omega))).alloc (by omega) o3).trans (h4.mono (by simp; omega))

set_option maxHeartbeats 4000000 in
theorem walk (a b : Int) (w : World) (ha : -9223372036854775808 ≤ a ∧ a ≤ 9223372036854775807) (hb : -9223372036854775808 ≤ b ∧ b ≤ 9223372036854775807) :
    Calls Try.prog 9 #[.int .i64 a, .int .i64 b] w fun e w' => e = .returned (.bool true) ∧ Below w.heap.size w w' := by
  obtain ⟨s, hs⟩ : ∃ s, tx (encs [a]) = s := ⟨_, rfl⟩
  obtain ⟨t, ht⟩ : ∃ t, tx (encs [b]) = t := ⟨_, rfl⟩
  obtain ⟨u, hu⟩ : ∃ u, tx (encs [a, b]) = u := ⟨_, rfl⟩
  have hF := facts ha hb hs ht
  have hsum : s ++ t = u := by rw [← hs, ← ht, ← hu, tx_app, encs_one, encs_one, encs_two]
  obtain ⟨p1, p2⟩ := zig_bounds a ha.1 ha.2
  obtain ⟨q1, q2⟩ := zig_bounds b hb.1 hb.2
  have z1 : s.size ≤ 10 := by rw [← hs, tx_size, encs_one]; exact enc_len10 _ (by omega)
  have z2 : t.size ≤ 10 := by rw [← ht, tx_size, encs_one]; exact enc_len10 _ (by omega)
  have z3 : s.size + t.size ≤ 9223372036854775807 := by omega
  obtain ⟨z, hz⟩ : ∃ z, zig a = z := ⟨_, rfl⟩
  have k4 := fun w => zig_any a w ha.1 ha.2
  rw [hz] at k4 p1 p2
  have HS := Lib.hid hs
  have HT := Lib.hid ht
  have HU := Lib.hid hu
  clear hs ht hu q1 q2
  obtain ⟨y, hy, hzy⟩ : ∃ y, IntKind.u64.wrap a = y ∧ z % 2 = y / 9223372036854775808 := by
    refine ⟨_, rfl, ?_⟩
    rw [IntKind.wrap_u64, ← hz]
    unfold zig
    split <;> omega
  clear hz
  obtain ⟨c1, c2⟩ := ha
  obtain ⟨d1, d2⟩ := hb
  have k1 := fun (w : World) => all_one w.heap.size 1 a s (w.alloc (.cells #[.int .i64 a] 2)) (by simp [go_sem]) ⟨c1, c2⟩ HS
  have k2 := fun (w : World) => all_one w.heap.size 1 b t (w.alloc (.cells #[.int .i64 b] 2)) (by simp [go_sem]) ⟨d1, d2⟩ HT
  have k3 := fun (w : World) => all_two w.heap.size 2 a b u (w.alloc (.cells #[.int .i64 a, .int .i64 b] 2)) (by simp [go_sem]) (by simp [go_sem]) ⟨c1, c2⟩ ⟨d1, d2⟩ HU
  have hzp : 0 ≤ a → z % 2 = a / 9223372036854775808 := fun h => by rw [hzy, ← hy, IntKind.wrap_u64]; omega
  have hnear := hF.near
  have hsame : (a = b ∧ s = t) ∨ ((a == b) = false ∧ (s.toList == t.toList) = false ∧ a ≠ b) := by
    by_cases e1 : a = b
    · exact Or.inl ⟨e1, hF.same.2 e1⟩
    · exact Or.inr ⟨by simp; exact e1, eql_str fun e => e1 (hF.same.1 e), e1⟩
  clear hF HS HT HU
  rcases hsame with ⟨e1, e2⟩ | ⟨e1, e2, e3⟩
  · subst e1 e2
    by_cases g1 : 0 ≤ a
    · have hz2 := hzp g1
      clear hzp hnear hy hzy
      go_enter Try.func9, Try.ntmps9
      go_wp2_with (first
        | (go_at_call 10; (with_reducible refine (awake_any _).mono ?_); rintro e w1 ⟨rfl, hb1⟩)
        | (go_at_call 18; first | ((with_reducible refine (k1 w1).mono ?_); rintro e w2 ⟨rfl, hb2⟩) | ((with_reducible refine (k2 _).mono ?_); rintro e w3 ⟨rfl, hb3⟩) | ((with_reducible refine (k3 _).mono ?_); rintro e w4 ⟨rfl, hb4⟩))
        | (go_at_call 14; ((with_reducible refine (k4 _).mono ?_); rintro e w5 ⟨rfl, rfl⟩)))
      go_ret
      exact ⟨rfl, signs_below hb1 hb2 hb3 hb4⟩
    · clear hzp hnear
      go_enter Try.func9, Try.ntmps9
      go_wp2_with (first
        | (go_at_call 10; (with_reducible refine (awake_any _).mono ?_); rintro e w1 ⟨rfl, hb1⟩)
        | (go_at_call 18; first | ((with_reducible refine (k1 w1).mono ?_); rintro e w2 ⟨rfl, hb2⟩) | ((with_reducible refine (k2 _).mono ?_); rintro e w3 ⟨rfl, hb3⟩) | ((with_reducible refine (k3 _).mono ?_); rintro e w4 ⟨rfl, hb4⟩))
        | (go_at_call 14; ((with_reducible refine (k4 _).mono ?_); rintro e w5 ⟨rfl, rfl⟩)))
      go_ret
      exact ⟨rfl, signs_below hb1 hb2 hb3 hb4⟩
  · by_cases g1 : 0 ≤ a
    · have hz2 := hzp g1
      clear hzp hy hzy
      by_cases g2 : 0 ≤ b
      · by_cases g3 : a ≤ b
        · have hle : (s.size : Int) ≤ (t.size : Int) := by have := hnear (Or.inl ⟨g1, g2, g3⟩); omega
          clear hnear e3
          go_enter Try.func9, Try.ntmps9
          go_wp2_with (first
            | (go_at_call 10; (with_reducible refine (awake_any _).mono ?_); rintro e w1 ⟨rfl, hb1⟩)
            | (go_at_call 18; first | ((with_reducible refine (k1 w1).mono ?_); rintro e w2 ⟨rfl, hb2⟩) | ((with_reducible refine (k2 _).mono ?_); rintro e w3 ⟨rfl, hb3⟩) | ((with_reducible refine (k3 _).mono ?_); rintro e w4 ⟨rfl, hb4⟩))
            | (go_at_call 14; ((with_reducible refine (k4 _).mono ?_); rintro e w5 ⟨rfl, rfl⟩)))
          go_ret
          exact ⟨rfl, signs_below hb1 hb2 hb3 hb4⟩
        · clear hnear e3
          go_enter Try.func9, Try.ntmps9
          go_wp2_with (first
            | (go_at_call 10; (with_reducible refine (awake_any _).mono ?_); rintro e w1 ⟨rfl, hb1⟩)
            | (go_at_call 18; first | ((with_reducible refine (k1 w1).mono ?_); rintro e w2 ⟨rfl, hb2⟩) | ((with_reducible refine (k2 _).mono ?_); rintro e w3 ⟨rfl, hb3⟩) | ((with_reducible refine (k3 _).mono ?_); rintro e w4 ⟨rfl, hb4⟩))
            | (go_at_call 14; ((with_reducible refine (k4 _).mono ?_); rintro e w5 ⟨rfl, rfl⟩)))
          go_ret
          exact ⟨rfl, signs_below hb1 hb2 hb3 hb4⟩
      · clear hnear e3
        go_enter Try.func9, Try.ntmps9
        go_wp2_with (first
          | (go_at_call 10; (with_reducible refine (awake_any _).mono ?_); rintro e w1 ⟨rfl, hb1⟩)
          | (go_at_call 18; first | ((with_reducible refine (k1 w1).mono ?_); rintro e w2 ⟨rfl, hb2⟩) | ((with_reducible refine (k2 _).mono ?_); rintro e w3 ⟨rfl, hb3⟩) | ((with_reducible refine (k3 _).mono ?_); rintro e w4 ⟨rfl, hb4⟩))
          | (go_at_call 14; ((with_reducible refine (k4 _).mono ?_); rintro e w5 ⟨rfl, rfl⟩)))
        go_ret
        exact ⟨rfl, signs_below hb1 hb2 hb3 hb4⟩
    · clear hzp
      by_cases g2 : 0 ≤ b
      · clear hnear e3
        go_enter Try.func9, Try.ntmps9
        go_wp2_with (first
          | (go_at_call 10; (with_reducible refine (awake_any _).mono ?_); rintro e w1 ⟨rfl, hb1⟩)
          | (go_at_call 18; first | ((with_reducible refine (k1 w1).mono ?_); rintro e w2 ⟨rfl, hb2⟩) | ((with_reducible refine (k2 _).mono ?_); rintro e w3 ⟨rfl, hb3⟩) | ((with_reducible refine (k3 _).mono ?_); rintro e w4 ⟨rfl, hb4⟩))
          | (go_at_call 14; ((with_reducible refine (k4 _).mono ?_); rintro e w5 ⟨rfl, rfl⟩)))
        go_ret
        exact ⟨rfl, signs_below hb1 hb2 hb3 hb4⟩
      · by_cases g3 : b ≤ a
        · have hle : (s.size : Int) ≤ (t.size : Int) := by have := hnear (Or.inr ⟨by omega, by omega, g3⟩); omega
          clear hnear e3
          go_enter Try.func9, Try.ntmps9
          go_wp2_with (first
            | (go_at_call 10; (with_reducible refine (awake_any _).mono ?_); rintro e w1 ⟨rfl, hb1⟩)
            | (go_at_call 18; first | ((with_reducible refine (k1 w1).mono ?_); rintro e w2 ⟨rfl, hb2⟩) | ((with_reducible refine (k2 _).mono ?_); rintro e w3 ⟨rfl, hb3⟩) | ((with_reducible refine (k3 _).mono ?_); rintro e w4 ⟨rfl, hb4⟩))
            | (go_at_call 14; ((with_reducible refine (k4 _).mono ?_); rintro e w5 ⟨rfl, rfl⟩)))
          go_ret
          exact ⟨rfl, signs_below hb1 hb2 hb3 hb4⟩
        · clear hnear e3
          go_enter Try.func9, Try.ntmps9
          go_wp2_with (first
            | (go_at_call 10; (with_reducible refine (awake_any _).mono ?_); rintro e w1 ⟨rfl, hb1⟩)
            | (go_at_call 18; first | ((with_reducible refine (k1 w1).mono ?_); rintro e w2 ⟨rfl, hb2⟩) | ((with_reducible refine (k2 _).mono ?_); rintro e w3 ⟨rfl, hb3⟩) | ((with_reducible refine (k3 _).mono ?_); rintro e w4 ⟨rfl, hb4⟩))
            | (go_at_call 14; ((with_reducible refine (k4 _).mono ?_); rintro e w5 ⟨rfl, rfl⟩)))
          go_ret
          exact ⟨rfl, signs_below hb1 hb2 hb3 hb4⟩
end Go.Proofs.Ytddjoddbdinpaaa.vintSigns
