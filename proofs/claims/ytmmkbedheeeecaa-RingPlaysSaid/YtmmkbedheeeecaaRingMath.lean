/- The mathematics of the ring: hashes, points, their order. -/
import Derived.WalkKit
import Derived.Handy
import Derived.Below
import Derived.Lib.Hide
import Derived.Laws.BitsAllLaws
namespace Go.Proofs.Ytmmkbedheeeecaa
open Go.RowKit

/-- A point: where it lies, and its node. -/
structure Pt where
  a : Int
  n : Int
theorem Pt.eq {x y : Pt} (h1 : x.a = y.a) (h2 : x.n = y.n) : x = y := by cases x; cases y; simp_all
instance : Inhabited Pt := ⟨⟨0, 0⟩⟩
def f33 (x : Int) : Int := bits .xor .u64 x (x / 8589934592)
def mixI (x : Int) : Int := f33 (IntKind.u64.wrap (f33 (IntKind.u64.wrap (f33 x * 18397679294719823053)) * 14181476777654086739))
def hstep (x : Int) (b : UInt8) : Int := IntKind.u64.wrap (bits .xor .u64 x (b.toNat : Int) * 1099511628211)
def rawI (l : List UInt8) : Int := l.foldl hstep 14695981039346656037
def hashL (l : List UInt8) : Int := mixI (rawI l)
def hashI (s : ByteArray) : Int := hashL s.data.toList
theorem rawI_snoc (l : List UInt8) (b : UInt8) : rawI (l ++ [b]) = hstep (rawI l) b := by unfold rawI; rw [List.foldl_append]; rfl
theorem wrapU (x : Int) : 0 ≤ IntKind.u64.wrap x ∧ IntKind.u64.wrap x < 18446744073709551616 := by rw [IntKind.wrap_u64]; omega
theorem xorU (a b : Int) : 0 ≤ bits .xor .u64 a b ∧ bits .xor .u64 a b < 18446744073709551616 := wrapU _
theorem f33_fit (x : Int) : 0 ≤ f33 x ∧ f33 x < 18446744073709551616 := xorU _ _
theorem rawI_fit (l : List UInt8) : 0 ≤ rawI l ∧ rawI l < 18446744073709551616 := by
  rcases List.eq_nil_or_concat l with rfl | ⟨l', b, rfl⟩
  · exact ⟨by decide, by decide⟩
  · rw [List.concat_eq_append, rawI_snoc]; exact wrapU _
theorem hashL_fit (l : List UInt8) : 0 ≤ hashL l ∧ hashL l < 18446744073709551616 := f33_fit _
theorem hashI_fit (s : ByteArray) : 0 ≤ hashI s ∧ hashI s < 18446744073709551616 := hashL_fit _
theorem take_snoc (s : ByteArray) (k : Nat) (h : k < s.size) : s.data.toList.take (k + 1) = s.data.toList.take k ++ [s[k]] := by
  rw [List.take_succ_eq_append_getElem (by simpa using h)]; rfl
end Go.Proofs.Ytmmkbedheeeecaa
