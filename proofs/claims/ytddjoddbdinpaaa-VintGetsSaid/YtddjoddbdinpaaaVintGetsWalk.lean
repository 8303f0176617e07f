/- The walk of law VintGets: it returns true and turns nothing that was there. -/
import Derived.Test.YtddjoddbdinpaaaVintAwake
import Derived.Test.YtddjoddbdinpaaaVintRefGet
namespace Go.Proofs.Ytddjoddbdinpaaa.vintGets
open Go.RowKit Go.Proofs.Ytddjoddbdinpaaa Go.Proofs.Ytddjoddbdinpaaa.Vi

theorem walk (s0 : ByteArray) (n1 : Int) (w : World) (_hs : s0.size ≤ maxLen) (hn : -9223372036854775808 ≤ n1 ∧ n1 ≤ 9223372036854775807) :
    Calls Try.prog 4 #[.string s0, .int .i64 n1] w fun e w' => e = .returned (.bool true) ∧ Below w.heap.size w w' := by
  obtain ⟨s, hs⟩ : ∃ s, cutB s0 100 = s := ⟨_, rfl⟩
  have hsz : s.size ≤ maxLen := by rw [← hs]; have := (cutB_size s0 100).1; unfold maxLen; omega
  obtain ⟨⟨v, p, e⟩, hg⟩ : ∃ x : Int × Int × Int, getR s.data.toList n1 = x := ⟨_, rfl⟩
  have k1 := fun w => short_is s0 s 100 100 w rfl (by omega) (Lib.hid hs)
  have k2 := fun w => get_is s n1 v p e w hsz hn.1 hn.2 (Lib.hid hg)
  have k3 := fun w => refGet_is s n1 v p e w hsz hn.1 hn.2 (Lib.hid hg)
  clear hg hs
  go_enter Try.func4, Try.ntmps4
  go_wp2_with (first
    | (go_at_call 10; (with_reducible refine (awake_any _).mono ?_); rintro e w1 ⟨rfl, hb1⟩)
    | (go_at_call 11; (with_reducible refine (k1 _).mono ?_); rintro e w2 ⟨rfl, rfl⟩)
    | (go_at_call 22; (with_reducible refine (k2 _).mono ?_); rintro e w2 ⟨rfl, rfl⟩)
    | (go_at_call 23; (with_reducible refine (k3 _).mono ?_); rintro e w2 ⟨rfl, hb2⟩))
  go_ret
  exact ⟨rfl, hb1.trans (hb2.mono hb1.size)⟩
end Go.Proofs.Ytddjoddbdinpaaa.vintGets
