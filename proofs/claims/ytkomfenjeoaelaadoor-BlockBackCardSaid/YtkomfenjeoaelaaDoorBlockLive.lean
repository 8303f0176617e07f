/- What a law's walk carries: four lists; arguments. -/
import Derived.Test.YtkomfenjeoaelaaDoorBlockAwake
import Derived.Test.YtkomfenjeoaelaaDoorBlockRPut
import Derived.Test.YtkomfenjeoaelaaDoorBlockMerge
set_option maxRecDepth 20000
namespace Go.Proofs.YtkomfenjeoaelaaDoor
open Go.RowKit Go.Proofs.YtkomfenjeoaelaaDoor.Vi Go.Proofs.YtkomfenjeoaelaaDoor.Mk Go.Proofs.YtkomfenjeoaelaaDoor.Crc

structure Live (w wr : World) (p1 : Option Addr) (c1 : Nat) (l1 : List Pt) (p2 : Option Addr) (c2 : Nat) (l2 : List Pt) (p3 : Option Addr) (c3 : Nat) (l3 : List Pt) (p4 : Option Addr) (c4 : Nat) (l4 : List Pt) : Prop where
  a : Lst wr wr.heap.size p1 c1 l1
  b : Lst wr wr.heap.size p2 c2 l2
  c : Lst wr wr.heap.size p3 c3 l3
  d : Lst wr wr.heap.size p4 c4 l4
  bel : Below w.heap.size w wr
  tab : Tab wr
theorem Lst.nil (w : World) (B : Nat) : Lst w B none 0 [] := ⟨⟨Or.inl rfl⟩, Nat.le_refl _, fun _ => rfl⟩
theorem Live.start {w : World} (h : Tab w) : Live w w none 0 [] none 0 [] none 0 [] none 0 [] := ⟨Lst.nil _ _, Lst.nil _ _, Lst.nil _ _, Lst.nil _ _, Below.refl _ _, h⟩
theorem Live.later {w wr w2 : World} {p1 : Option Addr} {c1 : Nat} {l1 : List Pt} {p2 : Option Addr} {c2 : Nat} {l2 : List Pt} {p3 : Option Addr} {c3 : Nat} {l3 : List Pt} {p4 : Option Addr} {c4 : Nat} {l4 : List Pt} (h : Live w wr p1 c1 l1 p2 c2 l2 p3 c3 l3 p4 c4 l4) (k : Below wr.heap.size wr w2) : Live w w2 p1 c1 l1 p2 c2 l2 p3 c3 l3 p4 c4 l4 :=
  ⟨h.a.later k, h.b.later k, h.c.later k, h.d.later k, bel_next h.bel k, h.tab.next k⟩
theorem Live.seta {w wr : World} {p1 : Option Addr} {c1 : Nat} {l1 : List Pt} {p2 : Option Addr} {c2 : Nat} {l2 : List Pt} {p3 : Option Addr} {c3 : Nat} {l3 : List Pt} {p4 : Option Addr} {c4 : Nat} {l4 : List Pt} (h : Live w wr p1 c1 l1 p2 c2 l2 p3 c3 l3 p4 c4 l4) {p : Option Addr} {c : Nat} {l : List Pt} (k : Lst wr wr.heap.size p c l) : Live w wr p c l p2 c2 l2 p3 c3 l3 p4 c4 l4 := ⟨k, h.b, h.c, h.d, h.bel, h.tab⟩
theorem Live.setb {w wr : World} {p1 : Option Addr} {c1 : Nat} {l1 : List Pt} {p2 : Option Addr} {c2 : Nat} {l2 : List Pt} {p3 : Option Addr} {c3 : Nat} {l3 : List Pt} {p4 : Option Addr} {c4 : Nat} {l4 : List Pt} (h : Live w wr p1 c1 l1 p2 c2 l2 p3 c3 l3 p4 c4 l4) {p : Option Addr} {c : Nat} {l : List Pt} (k : Lst wr wr.heap.size p c l) : Live w wr p1 c1 l1 p c l p3 c3 l3 p4 c4 l4 := ⟨h.a, k, h.c, h.d, h.bel, h.tab⟩
theorem Live.setc {w wr : World} {p1 : Option Addr} {c1 : Nat} {l1 : List Pt} {p2 : Option Addr} {c2 : Nat} {l2 : List Pt} {p3 : Option Addr} {c3 : Nat} {l3 : List Pt} {p4 : Option Addr} {c4 : Nat} {l4 : List Pt} (h : Live w wr p1 c1 l1 p2 c2 l2 p3 c3 l3 p4 c4 l4) {p : Option Addr} {c : Nat} {l : List Pt} (k : Lst wr wr.heap.size p c l) : Live w wr p1 c1 l1 p2 c2 l2 p c l p4 c4 l4 := ⟨h.a, h.b, k, h.d, h.bel, h.tab⟩
theorem Live.setd {w wr : World} {p1 : Option Addr} {c1 : Nat} {l1 : List Pt} {p2 : Option Addr} {c2 : Nat} {l2 : List Pt} {p3 : Option Addr} {c3 : Nat} {l3 : List Pt} {p4 : Option Addr} {c4 : Nat} {l4 : List Pt} (h : Live w wr p1 c1 l1 p2 c2 l2 p3 c3 l3 p4 c4 l4) {p : Option Addr} {c : Nat} {l : List Pt} (k : Lst wr wr.heap.size p c l) : Live w wr p1 c1 l1 p2 c2 l2 p3 c3 l3 p c l := ⟨h.a, h.b, h.c, k, h.bel, h.tab⟩
/-- Two lists side by side. -/
theorem two_lists {w : World} {p1 p2 : Option Addr} {c1 c2 n1 n2 : Nat} {l1 l2 : List Pt} (h1 : Lst w w.heap.size p1 c1 l1) (h2 : Lst w w.heap.size p2 c2 l2) (e1 : l1.length = n1) (e2 : l2.length = n2) :
    LLs (w.alloc (.cells #[.slice p1 n1 c1, .slice p2 n2 c2] 22)) (w.alloc (.cells #[.slice p1 n1 c1, .slice p2 n2 c2] 22)).heap.size (some ⟨w.heap.size, 0, none⟩) [l1, l2] := by
  subst e1 e2
  refine ⟨Or.inr ⟨w.heap.size, 0, rfl, by simp, fun i hi => ?_⟩⟩
  simp at hi
  match i, hi with
  | 0, _ => exact ⟨p1, c1, by simp [go_sem], h1.later ((Below.refl _ _).alloc (Nat.le_refl _) _)⟩
  | 1, _ => exact ⟨p2, c2, by simp [go_sem], h2.later ((Below.refl _ _).alloc (Nat.le_refl _) _)⟩
end Go.Proofs.YtkomfenjeoaelaaDoor
