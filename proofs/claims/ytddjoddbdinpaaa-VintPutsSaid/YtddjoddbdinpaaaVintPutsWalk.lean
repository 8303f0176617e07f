/- The walk of law VintPuts: it returns true and turns nothing that was there. -/
import Derived.Test.YtddjoddbdinpaaaVintAwake
import Derived.Test.YtddjoddbdinpaaaVintArgs
namespace Go.Proofs.Ytddjoddbdinpaaa.vintPuts
open Go.RowKit Go.Proofs.Ytddjoddbdinpaaa Go.Proofs.Ytddjoddbdinpaaa.Vi

/-- The slice's numbers are put by both. -/
def Puts (w : World) (v : Value) (q : ByteArray) : Prop := ∀ w', Below w.heap.size w w' → Calls Try.prog 18 #[v] w' (TextDone q w') ∧ Calls Try.prog 19 #[v] w' (TextDone q w')
theorem puts_none (w : World) (a : Option Addr) (cap : Nat) : Puts w (.slice a 0 cap) (tx []) := fun w' _ => ⟨all_nil a cap w', refAll_nil a cap w'⟩
theorem puts_some (w : World) (b off cap : Nat) (l : List Int) (hl : l.length ≤ 40) (hc : ∀ j (h : j < l.length), w.cell? ⟨b, off + j, none⟩ = some (.int .i64 l[j])) (hb : ∀ n ∈ l, -9223372036854775808 ≤ n ∧ n ≤ 9223372036854775807) :
    Puts w (.slice (some ⟨b, off, none⟩) l.length cap) (tx (encs l)) := fun w' hB =>
  have hc' : ∀ j (h : j < l.length), w'.cell? ⟨b, off + j, none⟩ = some (.int .i64 l[j]) := fun j h => (hB.cell (p := ⟨b, off + j, none⟩) (World.block_lt_of_cell? w _ (hc j h))).trans (hc j h)
  ⟨all_is b off cap l _ w' hl hc' hb (Lib.hid rfl), refAll_is b off cap l _ w' hl hc' hb (Lib.hid rfl)⟩

set_option maxHeartbeats 4000000 in
theorem walk (n0 : Int) (a1 : Option Addr) (len1 cap1 : Nat) (s2 : ByteArray) (w : World) (h0 : 0 ≤ n0 ∧ n0 ≤ 18446744073709551615) (hl : ArgInts w a1 len1 cap1) (_hs : s2.size ≤ maxLen) :
    Calls Try.prog 3 #[.int .u64 n0, .slice a1 len1 cap1, .string s2] w fun e w' => e = .returned (.bool true) ∧ Below w.heap.size w w' := by
  obtain ⟨a, rfl⟩ := Int.eq_ofNat_of_zero_le h0.1
  obtain ⟨h, hh⟩ : ∃ h, cutB s2 300 = h := ⟨_, rfl⟩
  have hhz : h.size ≤ 300 := by rw [← hh]; exact (cutB_size s2 300).1
  obtain ⟨s, hs⟩ : ∃ s, tx (enc a) = s := ⟨_, rfl⟩
  obtain ⟨t, ht⟩ : ∃ t, ahead h = t := ⟨_, rfl⟩
  obtain ⟨c, hc⟩ : ∃ c, wrap64 (a : Int) = c := ⟨_, rfl⟩
  have hcb : -9223372036854775808 ≤ c ∧ c ≤ 9223372036854775807 := by rw [← hc, wrap64_is]; omega
  obtain ⟨z, hz⟩ : ∃ z, zig c = z := ⟨_, rfl⟩
  obtain ⟨g, hg⟩ : ∃ g, zag (a : Int) = g := ⟨_, rfl⟩
  have k1 := fun w => short_is s2 h 300 300 w rfl (by omega) (Lib.hid hh)
  have k2 := fun w => put_is a s w (by omega) (Lib.hid hs)
  have k3 := fun w => refPut_is a s w (by omega) (Lib.hid hs)
  have k4 := fun w => zig_any c w hcb.1 hcb.2
  have k5 := fun w => refZig_any c w hcb.1 hcb.2
  have k6 := fun w => zag_any (a : Int) w (by omega) (by omega)
  have k7 := fun w => refZag_any (a : Int) w (by omega) (by omega)
  have k8 := fun w => text_is h t w (by omega) (Lib.hid ht)
  have k9 := fun w => refText_is h t w (by omega) (Lib.hid ht)
  rw [hz] at k4 k5
  rw [hg] at k6 k7
  clear hh hs ht hz hg hcb
  rcases hl with rfl | ⟨b, off, l, rfl, rfl, hcap, hmax, hcell, hbd⟩
  · have kA := puts_none w a1 cap1
    generalize tx [] = q at kA
    go_enter Try.func3, Try.ntmps3
    go_wp2_with (first
      | (go_at_call 10; (with_reducible refine (awake_any _).mono ?_); rintro e w1 ⟨rfl, hb1⟩)
      | (go_at_call 11; (with_reducible refine (k1 _).mono ?_); rintro e w2 ⟨rfl, rfl⟩)
      | (go_at_call 12; ((with_reducible refine (k2 _).mono ?_); rintro e w2 ⟨rfl, hb2⟩))
      | (go_at_call 13; ((with_reducible refine (k3 _).mono ?_); rintro e w3 ⟨rfl, hb3⟩; have h3 := (hb1.trans (hb2.mono hb1.size)).trans (hb3.mono (Nat.le_trans hb1.size hb2.size)); have kb := kA _ h3))
      | (go_at_call 14; ((with_reducible refine (k4 _).mono ?_); rintro e w5 ⟨rfl, rfl⟩))
      | (go_at_call 15; ((with_reducible refine (k5 _).mono ?_); rintro e w5 ⟨rfl, rfl⟩))
      | (go_at_call 16; ((with_reducible refine (k6 _).mono ?_); rintro e w5 ⟨rfl, rfl⟩))
      | (go_at_call 17; ((with_reducible refine (k7 _).mono ?_); rintro e w5 ⟨rfl, rfl⟩))
      | (go_at_call 18; ((with_reducible refine kb.1.mono ?_); rintro e w4 ⟨rfl, hb4⟩; have h4 := h3.trans (hb4.mono h3.size); have kc := kA _ h4))
      | (go_at_call 19; ((with_reducible refine kc.2.mono ?_); rintro e w5 ⟨rfl, hb5⟩; have h5 := h4.trans (hb5.mono h4.size)))
      | (go_at_call 20; ((with_reducible refine (k8 _).mono ?_); rintro e w6 ⟨rfl, hb6⟩; have h6 := h5.trans (hb6.mono h5.size)))
      | (go_at_call 21; ((with_reducible refine (k9 _).mono ?_); rintro e w7 ⟨rfl, hb7⟩; have h7 := h6.trans (hb7.mono h6.size))))
    go_ret
    exact ⟨rfl, h7⟩
  · by_cases h40 : l.length ≤ 40
    · have kA := puts_some w b off cap1 l h40 hcell hbd
      generalize tx (encs l) = q at kA
      have h41 : ¬ (40 : Int) < (l.length : Int) := by omega
      clear hcell hbd
      go_enter Try.func3, Try.ntmps3
      go_wp2_with (first
        | (go_at_call 10; (with_reducible refine (awake_any _).mono ?_); rintro e w1 ⟨rfl, hb1⟩)
        | (go_at_call 11; (with_reducible refine (k1 _).mono ?_); rintro e w2 ⟨rfl, rfl⟩)
        | (go_at_call 12; ((with_reducible refine (k2 _).mono ?_); rintro e w2 ⟨rfl, hb2⟩))
        | (go_at_call 13; ((with_reducible refine (k3 _).mono ?_); rintro e w3 ⟨rfl, hb3⟩; have h3 := (hb1.trans (hb2.mono hb1.size)).trans (hb3.mono (Nat.le_trans hb1.size hb2.size)); have kb := kA _ h3))
        | (go_at_call 14; ((with_reducible refine (k4 _).mono ?_); rintro e w5 ⟨rfl, rfl⟩))
        | (go_at_call 15; ((with_reducible refine (k5 _).mono ?_); rintro e w5 ⟨rfl, rfl⟩))
        | (go_at_call 16; ((with_reducible refine (k6 _).mono ?_); rintro e w5 ⟨rfl, rfl⟩))
        | (go_at_call 17; ((with_reducible refine (k7 _).mono ?_); rintro e w5 ⟨rfl, rfl⟩))
        | (go_at_call 18; ((with_reducible refine kb.1.mono ?_); rintro e w4 ⟨rfl, hb4⟩; have h4 := h3.trans (hb4.mono h3.size); have kc := kA _ h4))
        | (go_at_call 19; ((with_reducible refine kc.2.mono ?_); rintro e w5 ⟨rfl, hb5⟩; have h5 := h4.trans (hb5.mono h4.size)))
        | (go_at_call 20; ((with_reducible refine (k8 _).mono ?_); rintro e w6 ⟨rfl, hb6⟩; have h6 := h5.trans (hb6.mono h5.size)))
        | (go_at_call 21; ((with_reducible refine (k9 _).mono ?_); rintro e w7 ⟨rfl, hb7⟩; have h7 := h6.trans (hb7.mono h6.size))))
      go_ret
      exact ⟨rfl, h7⟩
    · have hlen : (l.take 40).length = 40 := by rw [List.length_take]; omega
      have kA := puts_some w b off cap1 (l.take 40) (by omega) (fun j h => by rw [List.getElem_take]; exact hcell j (by omega)) (fun n hn => hbd n (List.mem_of_mem_take hn))
      rw [hlen] at kA
      generalize tx (encs (l.take 40)) = q at kA
      have h41 : (40 : Int) < (l.length : Int) := by omega
      have h42 : 40 ≤ cap1 := by omega
      unfold maxLen at hmax
      clear hcell hbd
      go_enter Try.func3, Try.ntmps3
      go_wp2_with (first
        | (go_at_call 10; (with_reducible refine (awake_any _).mono ?_); rintro e w1 ⟨rfl, hb1⟩)
        | (go_at_call 11; (with_reducible refine (k1 _).mono ?_); rintro e w2 ⟨rfl, rfl⟩)
        | (go_at_call 12; ((with_reducible refine (k2 _).mono ?_); rintro e w2 ⟨rfl, hb2⟩))
        | (go_at_call 13; ((with_reducible refine (k3 _).mono ?_); rintro e w3 ⟨rfl, hb3⟩; have h3 := (hb1.trans (hb2.mono hb1.size)).trans (hb3.mono (Nat.le_trans hb1.size hb2.size)); have kb := kA _ h3))
        | (go_at_call 14; ((with_reducible refine (k4 _).mono ?_); rintro e w5 ⟨rfl, rfl⟩))
        | (go_at_call 15; ((with_reducible refine (k5 _).mono ?_); rintro e w5 ⟨rfl, rfl⟩))
        | (go_at_call 16; ((with_reducible refine (k6 _).mono ?_); rintro e w5 ⟨rfl, rfl⟩))
        | (go_at_call 17; ((with_reducible refine (k7 _).mono ?_); rintro e w5 ⟨rfl, rfl⟩))
        | (go_at_call 18; ((with_reducible refine kb.1.mono ?_); rintro e w4 ⟨rfl, hb4⟩; have h4 := h3.trans (hb4.mono h3.size); have kc := kA _ h4))
        | (go_at_call 19; ((with_reducible refine kc.2.mono ?_); rintro e w5 ⟨rfl, hb5⟩; have h5 := h4.trans (hb5.mono h4.size)))
        | (go_at_call 20; ((with_reducible refine (k8 _).mono ?_); rintro e w6 ⟨rfl, hb6⟩; have h6 := h5.trans (hb6.mono h5.size)))
        | (go_at_call 21; ((with_reducible refine (k9 _).mono ?_); rintro e w7 ⟨rfl, hb7⟩; have h7 := h6.trans (hb7.mono h6.size))))
      go_ret
      exact ⟨rfl, h7⟩
end Go.Proofs.Ytddjoddbdinpaaa.vintPuts
