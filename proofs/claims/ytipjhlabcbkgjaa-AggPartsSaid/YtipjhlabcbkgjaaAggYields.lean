/- An aggregate is read at once in a region that draws its order. -/
import Derived.Test.YtipjhlabcbkgjaaAggAt
import Derived.Deep.RegionHeld
set_option maxRecDepth 20000
namespace Go.Proofs.Ytipjhlabcbkgjaa.Ag
open Go.RowKit Go.Proofs.Ytipjhlabcbkgjaa Go.Proofs.Ytipjhlabcbkgjaa.Wd Go.Proofs.Ytipjhlabcbkgjaa.Vi Go.Proofs.Ytipjhlabcbkgjaa.Mk

/-- In a region that draws its order: an aggregate is read at once. -/
theorem yields_ag {ops : Array Oper} {S : World → Prop} {op : Oper} {a : Act} (hw : Region.wanted op (yielded ops a.tmps) = true) (x : Operand) (ho : op.op = .load 29 x) (b : Nat) (g : Ag) (hx : a.eval x = .pointer (some ⟨b, 0, none⟩)) (hS : ∀ w, S w → AgAt w b g) : YieldsIf Try.prog ops S op (agV g) a :=
  yieldsIf_load_mid hw 29 x ho b 0 hx (cells18 g) _ (fun w h => (hS w h).r) Try.underlying29 rfl infoAg
end Go.Proofs.Ytipjhlabcbkgjaa.Ag
