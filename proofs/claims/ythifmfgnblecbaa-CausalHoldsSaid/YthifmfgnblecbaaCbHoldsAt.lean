/- What CausalHolds' loop has. -/
import Derived.Test.YthifmfgnblecbaaCbLit
import Derived.Test.YthifmfgnblecbaaCbAwake
import Derived.Test.YthifmfgnblecbaaOgRow
import Derived.Test.YthifmfgnblecbaaMarkC
import Derived.Deep.CutRange
import Derived.Deep.CutBlock
set_option maxRecDepth 200000
set_option linter.unusedSimpArgs false
set_option linter.unusedVariables false
namespace Go.Proofs.Ythifmfgnblecbaa.Og.Cb
open Go.RowKit Go.Maps Go.Proofs.Ythifmfgnblecbaa.Vi Go.Proofs.Ythifmfgnblecbaa.Mk

namespace causalHolds
theorem tm11 (n : Int) : ∃ (q : Int) (k : Nat), n.tmod 11 = q ∧ k ≤ 10 ∧ ((q < 0 ∧ IntKind.i64.wrap (-q) = (k : Int)) ∨ (¬ q < 0 ∧ q = (k : Int))) := by
  have h1 := Int.tmod_lt_of_pos n (show (0 : Int) < 11 by decide)
  have h2 := Int.lt_tmod_of_pos n (show (0 : Int) < 11 by decide)
  by_cases h : n.tmod 11 < 0
  · exact ⟨_, (-(n.tmod 11)).toNat, rfl, by omega, Or.inl ⟨h, by rw [IntKind.wrap_i64]; omega⟩⟩
  · exact ⟨_, (n.tmod 11).toNat, rfl, by omega, Or.inr ⟨h, by omega⟩⟩
def rowH (v : Value) (q : Nat) : Prop := v.ownBlock = some q
/-- What the law's loop has: the buffer, and what was held so far. -/
structure HoJ (w wr : World) (b kk : Nat) (S : CS) (zs : List Rd) (q : Nat) (v : Value) : Prop where
  bx : Bx (rowH v) w wr b S
  row : ORow wr w.heap.size v zs
  dlo : ∀ x ∈ zs, Ns w x.dv x.r.d ∧ (x.r.d ≠ [] → ∀ q, x.dv.ownBlock = some q → q < w.heap.size)
  sub : ∀ r ∈ S.L, ∃ x ∈ zs, x.r = r
  len : zs.length = q
  rm : S.room = (kk : Int)
theorem HoJ.later {w wr wt : World} {b kk q : Nat} {S : CS} {zs : List Rd} {v : Value} (h : HoJ w wr b kk S zs q v) (k : Below wr.heap.size wr wt) : HoJ w wt b kk S zs q v :=
  ⟨h.bx.later k, h.row.later k, h.dlo, h.sub, h.len, h.rm⟩
theorem HoJ.ns {w wr : World} {b kk q : Nat} {S : CS} {zs : List Rd} {v : Value} (h : HoJ w wr b kk S zs q v) {x : Rd} (hx : x ∈ zs) : Ns wr x.dv x.r.d := Ns.later (h.dlo x hx).1 h.bx.bel
theorem HoJ.bel {w wr : World} {b kk q : Nat} {S : CS} {zs : List Rd} {v : Value} (h : HoJ w wr b kk S zs q v) : Below w.heap.size w wr := h.bx.bel
theorem orow_keep {wr wt : World} {v : Value} {zs : List Rd} {B : Nat} (h : ORow wr B v zs) (k : Keep (rowH v) wr wt) : ORow wt B v zs := h.other fun g hg => k.2 g hg
theorem HoJ.next {w wr wt : World} {b kk q : Nat} {S : CS} {zs : List Rd} {v : Value} (h : HoJ w wr b kk S zs q v) (hb : Bx (rowH v) w wt b (nextS S)) (k : Keep (rowH v) wr wt) : HoJ w wt b kk (nextS S) zs q v := by
  refine ⟨hb, orow_keep h.row k, h.dlo, fun r hr => h.sub r ?_, h.len, ?_⟩
  · cases e : nextR S with
    | none => rw [nextS_none e] at hr; exact hr
    | some x => rw [nextS_some e] at hr; exact (delL_mem.1 hr).1
  · rw [← h.rm]
    cases e : nextR S with
    | none => rw [nextS_none e]
    | some x => rw [nextS_some e]
theorem HoJ.not {w wr wt : World} {b kk q : Nat} {S : CS} {zs : List Rd} {v : Value} {r : Rec} (h : HoJ w wr b kk S zs q v) (he : offE S r ≠ 0) (hb : Bx (rowH v) w wt b (offS S r)) (k : Keep (rowH v) wr wt) : HoJ w wt b kk S zs q v := by
  rw [offS_no he] at hb
  exact ⟨hb, orow_keep h.row k, h.dlo, h.sub, h.len, h.rm⟩
/-- One record more: it was held, and then gathered. -/
theorem HoJ.add {w wr wt wu : World} {b kk q : Nat} {S : CS} {zs : List Rd} {v v' : Value} {x : Rd} (h : HoJ w wr b kk S zs q v) (he : offE S x.r = 0) (hb : Bx (rowH v) w wt b (offS S x.r)) (hx : Ns w x.dv x.r.d) (hd : x.r.d ≠ [] → ∀ q, x.dv.ownBlock = some q → q < w.heap.size)
    (hrow : ORow wu w.heap.size v' (zs ++ [x])) (hg : wt.grownBy wu v.ownBlock) (hv : ∀ k, v'.ownBlock = some k → v.ownBlock = some k ∨ wt.heap.size ≤ k) : HoJ w wu b kk ⟨S.room, S.out, S.L ++ [x.r]⟩ (zs ++ [x]) (q + 1) v' := by
  rw [offS_yes he] at hb
  have hfr : FrF (rowH v) wt wu := ⟨hg.os, hg.tape, hg.output, hg.size, fun k hk hn => hg.block k hk fun e => hn e.symm⟩
  have hbel : Below w.heap.size w wu := hb.bel.trans (hfr.below (fun k hk => (h.row.lt hk).1) hb.bel.size)
  refine ⟨?_, hrow, fun y hy => ?_, fun r hr => ?_, by rw [List.length_append, h.len]; rfl, h.rm⟩
  · obtain ⟨F, k1, k2, k3, k4⟩ := hb
    refine ⟨F, k1.off hfr k2, fun q hq hh => ?_, hbel, fun q hq => (hrow.lt hq).2⟩
    rcases hv q hh with e | e
    · exact k2 q hq e
    · have := (k1.fp q hq).2; omega
  · rcases List.mem_append.1 hy with hy | hy
    · exact h.dlo y hy
    · rw [List.mem_singleton] at hy; subst hy; exact ⟨hx, hd⟩
  · rcases List.mem_append.1 hr with hr | hr
    · obtain ⟨y, hy, e⟩ := h.sub r hr
      exact ⟨y, List.mem_append_left _ hy, e⟩
    · rw [List.mem_singleton] at hr; subst hr
      exact ⟨x, List.mem_append_right _ (List.mem_singleton.2 rfl), rfl⟩
end causalHolds
end Go.Proofs.Ythifmfgnblecbaa.Og.Cb
