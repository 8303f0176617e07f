/- Calls with their parts; slices of records that a law gathers. -/
import Derived.Test.YthifmfgnblecbaaCbOps
set_option maxRecDepth 20000
set_option linter.unusedSimpArgs false
set_option linter.unusedVariables false
namespace Go.Proofs.Ythifmfgnblecbaa.Og.Cb
open Go.RowKit Go.Proofs.Ythifmfgnblecbaa.Vi Go.Proofs.Ythifmfgnblecbaa.Mk

theorem small_fits {x : Rd} (h : x.r.wide) : (smallR x).r.fits := h.small
theorem args_later {w w' : World} {v : Value} {l : List Int} (h : ArgNs w v l) (k : Below w.heap.size w w') : ArgNs w' v l := ⟨Ns.later h.ns k, h.cap⟩
theorem same_self (a : Rec) : a.same a = true := by
  unfold Rec.same sameL
  simp
theorem small_lit (k t v tier c st q : Int) (s s6 : ByteArray) (d d12 : List Int) (a : Option Addr) (cc : Nat) (W : World) (h : ArgNs W (.slice a d.length cc) d) (hs : s.size ≤ 9223372036854775807) (h6 : Hid (cutB s 60 = s6)) (h12 : Hid (d.take 12 = d12)) :
    Calls Try.prog 15 #[.agg #[.int .i64 k, .string s, .int .i64 t, .int .i64 v, .int .i64 tier, .int .i64 c, .int .i64 st, .int .i64 q, .slice a d.length cc]] W fun e w' =>
      e = .returned (.agg #[.int .i64 k, .string s6, .int .i64 t, .int .i64 v, .int .i64 tier, .int .i64 c, .int .i64 st, .int .i64 q, .slice a d12.length cc]) ∧ Ns w' (.slice a d12.length cc) d12 ∧ Below W.heap.size W w' := by
  have h6 := h6.out
  have h12 := h12.out
  subst h6 h12
  exact (small18 ⟨⟨k, s, t, v, tier, ⟨c, st, q⟩, d⟩, a, cc⟩ W h hs).mono fun e w' hd => hd
theorem few_lit (a : Option Addr) (cap : Nat) (l l12 : List Int) (w : World) (h : ArgNs w (.slice a l.length cap) l) (h12 : Hid (l.take 12 = l12)) : Calls Try.prog 10 #[.slice a l.length cap] w fun e w' => e = .returned (.slice a l12.length cap) ∧ Ns w (.slice a l12.length cap) l12 ∧ w = w' := by
  have h12 := h12.out
  subst h12
  exact few18 a cap l w h
theorem ns_set {w : World} {v : Value} {l : List Int} (h : Ns w v l) (b o : Nat) (z : Value) (hb : l ≠ [] → ∀ q, v.ownBlock = some q → q ≠ b) : Ns (w.setCell ⟨b, o, none⟩ z) v l :=
  Ns.off h (by simp) fun hd q hq _ => World.heap_setCell_off w b o z q (hb hd q hq)
end Go.Proofs.Ythifmfgnblecbaa.Og.Cb
