/- Plain mathematics of windows and spans. -/
import Derived.WalkKit
import Derived.Below
import Derived.WalkSmall
import Derived.Lib.Hide
namespace Go.Proofs.YtdkenokjdiamhaaDoor
open Go.RowKit
theorem bel_next {w a b : World} (h : Below w.heap.size w a) (k : Below a.heap.size a b) : Below w.heap.size w b := h.trans (k.mono h.size)
theorem bel_new {w a : World} (h : Below w.heap.size w a) (o : Obj) : Below w.heap.size w (a.alloc o) := h.alloc h.size o

/-- The width of a tier. -/
def wid (tier : Int) : Int := if tier = 0 then 1 else if tier = 1 then 10 else if tier = 2 then 60 else if tier = 3 then 3600 else 0
theorem wid_bounds (tier : Int) : 0 ≤ wid tier ∧ wid tier ≤ 3600 := by
  unfold wid; split <;> (try split) <;> (try split) <;> (try split) <;> omega
/-- A span. -/
structure Sp where
  f : Int
  t : Int
deriving DecidableEq
structure Sp.fits (s : Sp) : Prop where
  f : -9223372036854775808 ≤ s.f ∧ s.f ≤ 9223372036854775807
  t : -9223372036854775808 ≤ s.t ∧ s.t ≤ 9223372036854775807
def Sp.zero : Sp := ⟨0, 0⟩
def Sp.v (s : Sp) : Value := .agg #[.int .i64 s.f, .int .i64 s.t]
def cutI (n : Int) : Int := if 1099511627777 < n then 1099511627777 else n
def startI (t tier : Int) : Int := if 0 ≤ t ∧ t < 1099511627777 ∧ wid tier ≠ 0 then t - t % wid tier else -1
def ofI (t tier : Int) : Sp := if startI t tier < 0 then Sp.zero else ⟨startI t tier, cutI (startI t tier + wid tier)⟩
def Sp.is (s : Sp) : Bool := decide (0 ≤ s.f ∧ s.f ≤ s.t ∧ s.t ≤ 1099511627777)
def Sp.may (s : Sp) (tier : Int) : Bool := s.is && decide (0 < wid tier)
def Sp.aligned (s : Sp) (tier : Int) : Bool := s.may tier && decide ((s.f % wid tier = 0 ∨ s.f = 1099511627777) ∧ (s.t % wid tier = 0 ∨ s.t = 1099511627777))
def Sp.cover (s : Sp) (tier : Int) : Sp :=
  if s.may tier = false then Sp.zero
  else if s.f = s.t then (if s.f = 1099511627777 then Sp.zero else ⟨s.f - s.f % wid tier, s.f - s.f % wid tier⟩)
  else ⟨s.f - s.f % wid tier, cutI ((s.t - 1) - (s.t - 1) % wid tier + wid tier)⟩
/-- The least number from n on that is a multiple; the greatest up to n (or the end itself). -/
def upI (n w : Int) : Int := if 0 < n % w then n - n % w + w else n
def downI (n w : Int) : Int := if n < 1099511627777 then n - n % w else n
def Sp.inner (s : Sp) (tier : Int) : Sp :=
  if s.may tier = false then Sp.zero
  else if downI s.t (wid tier) ≤ upI s.f (wid tier) then ⟨s.f, s.f⟩ else ⟨upI s.f (wid tier), downI s.t (wid tier)⟩
def Sp.count (s : Sp) (tier : Int) : Int := if (s.cover tier).f = (s.cover tier).t then 0 else ((s.cover tier).t - (s.cover tier).f + wid tier - 1) / wid tier
def bothI (a b : Sp) : Sp :=
  if (a.is && b.is) = false then Sp.zero
  else if min a.t b.t ≤ max a.f b.f then Sp.zero else ⟨max a.f b.f, min a.t b.t⟩
theorem mod_facts {t w : Int} (ht : 0 ≤ t) (hw : 0 < w) : t.tmod w = t % w ∧ 0 ≤ t % w ∧ t % w < w ∧ t % w ≤ t := by
  refine ⟨Int.tmod_eq_emod_of_nonneg ht, Int.emod_nonneg _ (by omega), Int.emod_lt_of_pos _ hw, ?_⟩
  have h1 := Int.emod_add_mul_ediv t w
  have h2 := Int.ediv_nonneg ht (show 0 ≤ w by omega)
  have h3 := Int.mul_nonneg (show 0 ≤ w by omega) h2
  omega
theorem Sp.is_iff {s : Sp} : s.is = true ↔ 0 ≤ s.f ∧ s.f ≤ s.t ∧ s.t ≤ 1099511627777 := by unfold Sp.is; simp
theorem Sp.may_parts {s : Sp} {tier : Int} (h : s.may tier = true) : (0 ≤ s.f ∧ s.f ≤ s.t ∧ s.t ≤ 1099511627777) ∧ 0 < wid tier := by
  unfold Sp.may at h
  rw [Bool.and_eq_true] at h
  exact ⟨Sp.is_iff.1 h.1, by simpa using h.2⟩
/-- A span in its block. -/
structure SpAt (w : World) (b : Nat) (s : Sp) : Prop where
  c0 : w.cell? ⟨b, 0, none⟩ = some (.int .i64 s.f)
  c1 : w.cell? ⟨b, 1, none⟩ = some (.int .i64 s.t)
theorem SpAt.room {w : World} {b : Nat} {s : Sp} (h : SpAt w b s) : b < w.heap.size := World.block_lt_of_cell? w _ h.c0
theorem SpAt.below {w w' : World} {b : Nat} {s : Sp} (h : SpAt w b s) (k : Below w.heap.size w w') : SpAt w' b s :=
  ⟨(k.cell (p := ⟨b, 0, none⟩) h.room).trans h.c0, (k.cell (p := ⟨b, 1, none⟩) h.room).trans h.c1⟩
theorem SpAt.new (w : World) (s : Sp) (T : TypeId) : SpAt (w.alloc (.cells #[.int .i64 s.f, .int .i64 s.t] T)) w.heap.size s := by
  constructor <;> simp [go_sem]
end Go.Proofs.YtdkenokjdiamhaaDoor
