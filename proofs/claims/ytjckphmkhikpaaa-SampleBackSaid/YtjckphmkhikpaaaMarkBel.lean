/- Small steps of 'Below'. -/
import Derived.WalkKit
import Derived.Below
import Derived.WalkSmall
namespace Go.Proofs.Ytjckphmkhikpaaa
open Go.RowKit
theorem bel_next {w a b : World} (h : Below w.heap.size w a) (k : Below a.heap.size a b) : Below w.heap.size w b := h.trans (k.mono h.size)
theorem bel_new {w a : World} (h : Below w.heap.size w a) (o : Obj) : Below w.heap.size w (a.alloc o) := h.alloc h.size o
theorem bel_lt {w a : World} (h : Below w.heap.size w a) : w.heap.size ≤ a.heap.size := h.size
end Go.Proofs.Ytjckphmkhikpaaa
