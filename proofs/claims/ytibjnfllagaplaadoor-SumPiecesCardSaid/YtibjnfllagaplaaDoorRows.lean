/-
  NARROWER THAN 'FOR EVERY INPUT', by the rows' own cells (each row's printed sentence says how): SumValues: laid · SumSeals: laid · SumPieces: laid · SumTurned: laid · SumNil: laid · SumAlone: laid.
  DERIVED. THE GIVEN ROWS OF THIS SEAT. 6 by the template 'for every input the law returns true; each argument reads behind the call as it read before'; 0 by the template 'total and deterministic' (their statements: YtibjnfllagaplaaDoorTotals.lean).
  GIVEN WITH THE SEED: the statements are not yours to turn. If you find one false, say at which input.
  Laid BY PROGRAM, IN A SANDBOX (cutbox-rows.mjs): the forced cells as the released guide's own fill.sh prints them over the translation daae35c8fa84a2aa… (all of the seat's roots in one cut). By AI agents, Wed Nov 11 2026. No macro, syntax, notation, axiom, sorry.
-/
import Derived.Test.YtibjnfllagaplaaDoorChecked
import GoSem.Claim
import GoSem.ClaimJoined
import GoSem.ClaimMapViews
import Derived.JoinedTies
import Derived.KernelRfl
namespace Go.Proofs.YtibjnfllagaplaaDoor
/- THE CELL 'sum', in the pinned program and in every row, IS THE sha256 OF THE DUMP (.gsa) THAT YtibjnfllagaplaaDoorProg.lean LOADS. Nothing in Lean hashes anything: it is a label: what it is worth is what the hold of that sum in a sandbox is worth. -/
noncomputable def Tryd.pinned : Pinned := { name := "ytibjnfllagaplaadoor", sum := "daae35c8fa84a2aaa159570c201c35553cf7aca535c5aa3fee9a3a331c223b31", checked := Tryd.checked }
namespace Rows
def none {H : Type} : Left H := { results := [], args := [] }

/- WHAT THE LISTED PACKAGE-LEVEL VARIABLES READ AS WHEN THE CALL BEGINS. Each datum BY PROGRAM (the guide's laid-datum.mjs) off the statement by which the dump's own 'gosem.cut.vars' lays the variable. In a bare row this is a premise. The card (YtibjnfllagaplaaDoorCards.lean) ties it to the program's text. -/
def laid_heliograph_sum_fourSteps {H : Type} : DataW H := .agg [.lit (.int .u32 0), .lit (.int .u32 274646895), .lit (.int .u32 549293790), .lit (.int .u32 820201905), .lit (.int .u32 1098587580), .lit (.int .u32 1361435347), .lit (.int .u32 1640403810), .lit (.int .u32 1905808397), .lit (.int .u32 2197175160), .lit (.int .u32 2460548119), .lit (.int .u32 2722870694), .lit (.int .u32 2987750089), .lit (.int .u32 3280807620), .lit (.int .u32 3553878443), .lit (.int .u32 3811616794), .lit (.int .u32 4084100981)]

/-- 'heliographlaw01.SumValues': WHATEVER THE INPUT: true; the input reads as it did. -/
def sumValuesSpec : ChangeSpec := { name := "sumValues", fn := fun _ => fun
  | [d] => { results := [.lit (.bool true)], args := [d] }
  | _ => none }
def sumValuesRow : OpenClaim := { program := "ytibjnfllagaplaadoor", sum := "daae35c8fa84a2aaa159570c201c35553cf7aca535c5aa3fee9a3a331c223b31", func := "heliograph/heliographlaw01.SumValues", spec := "sumValues", named := ["heliograph/sum.fourSteps"], apart := false, laid := [("heliograph/sum.fourSteps", laid_heliograph_sum_fourSteps)] }
def SumValuesSaid : Prop := sumValuesRow.holds Tryd.pinned (OpenSpec.ofChange sumValuesSpec)

/-- ITS FALSE NEIGHBOUR: 'it returns false'. Refute it at one input. -/
def sumValuesWrong : ChangeSpec := { name := "sumValues", fn := fun _ => fun
  | [d] => { results := [.lit (.bool false)], args := [d] }
  | _ => none }
def SumValuesWrongFalsely : Prop := sumValuesRow.holds Tryd.pinned (OpenSpec.ofChange sumValuesWrong)

/-- 'heliographlaw01.SumSeals': WHATEVER THE INPUT: true; the input reads as it did. -/
def sumSealsSpec : ChangeSpec := { name := "sumSeals", fn := fun _ => fun
  | [d1, d2] => { results := [.lit (.bool true)], args := [d1, d2] }
  | _ => none }
def sumSealsRow : OpenClaim := { program := "ytibjnfllagaplaadoor", sum := "daae35c8fa84a2aaa159570c201c35553cf7aca535c5aa3fee9a3a331c223b31", func := "heliograph/heliographlaw01.SumSeals", spec := "sumSeals", named := ["heliograph/sum.fourSteps"], apart := false, laid := [("heliograph/sum.fourSteps", laid_heliograph_sum_fourSteps)] }
def SumSealsSaid : Prop := sumSealsRow.holds Tryd.pinned (OpenSpec.ofChange sumSealsSpec)

/-- ITS FALSE NEIGHBOUR: 'it returns false'. Refute it at one input. -/
def sumSealsWrong : ChangeSpec := { name := "sumSeals", fn := fun _ => fun
  | [d1, d2] => { results := [.lit (.bool false)], args := [d1, d2] }
  | _ => none }
def SumSealsWrongFalsely : Prop := sumSealsRow.holds Tryd.pinned (OpenSpec.ofChange sumSealsWrong)

/-- 'heliographlaw01.SumPieces': WHATEVER THE INPUT: true; the input reads as it did. -/
def sumPiecesSpec : ChangeSpec := { name := "sumPieces", fn := fun _ => fun
  | [d1, d2] => { results := [.lit (.bool true)], args := [d1, d2] }
  | _ => none }
def sumPiecesRow : OpenClaim := { program := "ytibjnfllagaplaadoor", sum := "daae35c8fa84a2aaa159570c201c35553cf7aca535c5aa3fee9a3a331c223b31", func := "heliograph/heliographlaw01.SumPieces", spec := "sumPieces", named := ["heliograph/sum.fourSteps"], apart := false, laid := [("heliograph/sum.fourSteps", laid_heliograph_sum_fourSteps)] }
def SumPiecesSaid : Prop := sumPiecesRow.holds Tryd.pinned (OpenSpec.ofChange sumPiecesSpec)

/-- ITS FALSE NEIGHBOUR: 'it returns false'. Refute it at one input. -/
def sumPiecesWrong : ChangeSpec := { name := "sumPieces", fn := fun _ => fun
  | [d1, d2] => { results := [.lit (.bool false)], args := [d1, d2] }
  | _ => none }
def SumPiecesWrongFalsely : Prop := sumPiecesRow.holds Tryd.pinned (OpenSpec.ofChange sumPiecesWrong)

/-- 'heliographlaw01.SumTurned': WHATEVER THE INPUT: true; the input reads as it did. -/
def sumTurnedSpec : ChangeSpec := { name := "sumTurned", fn := fun _ => fun
  | [d1, d2, d3] => { results := [.lit (.bool true)], args := [d1, d2, d3] }
  | _ => none }
def sumTurnedRow : OpenClaim := { program := "ytibjnfllagaplaadoor", sum := "daae35c8fa84a2aaa159570c201c35553cf7aca535c5aa3fee9a3a331c223b31", func := "heliograph/heliographlaw01.SumTurned", spec := "sumTurned", named := ["heliograph/sum.fourSteps"], apart := false, laid := [("heliograph/sum.fourSteps", laid_heliograph_sum_fourSteps)] }
def SumTurnedSaid : Prop := sumTurnedRow.holds Tryd.pinned (OpenSpec.ofChange sumTurnedSpec)

/-- ITS FALSE NEIGHBOUR: 'it returns false'. Refute it at one input. -/
def sumTurnedWrong : ChangeSpec := { name := "sumTurned", fn := fun _ => fun
  | [d1, d2, d3] => { results := [.lit (.bool false)], args := [d1, d2, d3] }
  | _ => none }
def SumTurnedWrongFalsely : Prop := sumTurnedRow.holds Tryd.pinned (OpenSpec.ofChange sumTurnedWrong)

/-- 'heliographlaw01.SumNil': WHATEVER THE INPUT: true; the input reads as it did. -/
def sumNilSpec : ChangeSpec := { name := "sumNil", fn := fun _ => fun
  | [d] => { results := [.lit (.bool true)], args := [d] }
  | _ => none }
def sumNilRow : OpenClaim := { program := "ytibjnfllagaplaadoor", sum := "daae35c8fa84a2aaa159570c201c35553cf7aca535c5aa3fee9a3a331c223b31", func := "heliograph/heliographlaw01.SumNil", spec := "sumNil", named := ["heliograph/sum.fourSteps"], apart := false, laid := [("heliograph/sum.fourSteps", laid_heliograph_sum_fourSteps)] }
def SumNilSaid : Prop := sumNilRow.holds Tryd.pinned (OpenSpec.ofChange sumNilSpec)

/-- ITS FALSE NEIGHBOUR: 'it returns false'. Refute it at one input. -/
def sumNilWrong : ChangeSpec := { name := "sumNil", fn := fun _ => fun
  | [d] => { results := [.lit (.bool false)], args := [d] }
  | _ => none }
def SumNilWrongFalsely : Prop := sumNilRow.holds Tryd.pinned (OpenSpec.ofChange sumNilWrong)

/-- 'heliographlaw01.SumAlone': WHATEVER THE INPUT: true; the input reads as it did. -/
def sumAloneSpec : ChangeSpec := { name := "sumAlone", fn := fun _ => fun
  | [d1, d2, d3] => { results := [.lit (.bool true)], args := [d1, d2, d3] }
  | _ => none }
def sumAloneRow : OpenClaim := { program := "ytibjnfllagaplaadoor", sum := "daae35c8fa84a2aaa159570c201c35553cf7aca535c5aa3fee9a3a331c223b31", func := "heliograph/heliographlaw01.SumAlone", spec := "sumAlone", named := ["heliograph/sum.fourSteps"], apart := false, laid := [("heliograph/sum.fourSteps", laid_heliograph_sum_fourSteps)] }
def SumAloneSaid : Prop := sumAloneRow.holds Tryd.pinned (OpenSpec.ofChange sumAloneSpec)

/-- ITS FALSE NEIGHBOUR: 'it returns false'. Refute it at one input. -/
def sumAloneWrong : ChangeSpec := { name := "sumAlone", fn := fun _ => fun
  | [d1, d2, d3] => { results := [.lit (.bool false)], args := [d1, d2, d3] }
  | _ => none }
def SumAloneWrongFalsely : Prop := sumAloneRow.holds Tryd.pinned (OpenSpec.ofChange sumAloneWrong)

/- THE SECOND FORM. 'bulk': how many values and letters a reading holds, each counted each time it is reached (what is shared counts as often as it is met; a slice's spare places count too). A statement '..UptoSaid' is the law's where the arguments, and the package variables that the reading takes, are together of bulk at most 1048576: NARROWER than '..Said'. Prove '..Said' where nothing that the law and all that it calls make is longer than what came in: it says more and counts as full. Else prove '..UptoSaid'. A law counts once. -/
mutual
def uptoBulk {H : Type} : DataW H → Nat
  | .lit (.string bytes) => bytes.length + 1
  | .lit _ => 1
  | .nil => 1
  | .ptr d => uptoBulk d + 1
  | .slice elems spare => uptoBulkAll elems + uptoBulkAll spare + 1
  | .agg parts => uptoBulkAll parts + 1
  | .iface _ d => uptoBulk d + 1
  | .map entries => uptoBulkEntries entries + 1
  | .held _ => 1
def uptoBulkAll {H : Type} : List (DataW H) → Nat
  | [] => 0
  | d :: r => uptoBulk d + uptoBulkAll r
def uptoBulkEntries {H : Type} : List (Lit × DataW H) → Nat
  | [] => 0
  | x :: r => uptoBulkEntry x + uptoBulkEntries r
def uptoBulkEntry {H : Type} : Lit × DataW H → Nat
  | (.string bytes, d) => bytes.length + uptoBulk d + 1
  | (_, d) => uptoBulk d + 1
 end
def uptoSmall : (H : Type) → List (DataW H) → Bool := fun _ ds => decide (uptoBulkAll ds ≤ 1048576)
def OpenSpec.upto (s : _root_.Go.ChangeSpec) : _root_.Go.OpenSpec := { _root_.Go.OpenSpec.ofChange s with cond := some uptoSmall }

/-- 'heliographlaw01.SumValues', WHERE WHAT IT READS IS OF BULK AT MOST 1048576: true; the input reads as it did. -/
def sumValuesUptoRow : OpenClaim := { program := "ytibjnfllagaplaadoor", sum := "daae35c8fa84a2aaa159570c201c35553cf7aca535c5aa3fee9a3a331c223b31", func := "heliograph/heliographlaw01.SumValues", spec := "sumValues", named := ["heliograph/sum.fourSteps"], apart := false, laid := [("heliograph/sum.fourSteps", laid_heliograph_sum_fourSteps)], narrowed := true }
def SumValuesUptoSaid : Prop := sumValuesUptoRow.holds Tryd.pinned (OpenSpec.upto sumValuesSpec)

/-- 'heliographlaw01.SumSeals', WHERE WHAT IT READS IS OF BULK AT MOST 1048576: true; the input reads as it did. -/
def sumSealsUptoRow : OpenClaim := { program := "ytibjnfllagaplaadoor", sum := "daae35c8fa84a2aaa159570c201c35553cf7aca535c5aa3fee9a3a331c223b31", func := "heliograph/heliographlaw01.SumSeals", spec := "sumSeals", named := ["heliograph/sum.fourSteps"], apart := false, laid := [("heliograph/sum.fourSteps", laid_heliograph_sum_fourSteps)], narrowed := true }
def SumSealsUptoSaid : Prop := sumSealsUptoRow.holds Tryd.pinned (OpenSpec.upto sumSealsSpec)

/-- 'heliographlaw01.SumPieces', WHERE WHAT IT READS IS OF BULK AT MOST 1048576: true; the input reads as it did. -/
def sumPiecesUptoRow : OpenClaim := { program := "ytibjnfllagaplaadoor", sum := "daae35c8fa84a2aaa159570c201c35553cf7aca535c5aa3fee9a3a331c223b31", func := "heliograph/heliographlaw01.SumPieces", spec := "sumPieces", named := ["heliograph/sum.fourSteps"], apart := false, laid := [("heliograph/sum.fourSteps", laid_heliograph_sum_fourSteps)], narrowed := true }
def SumPiecesUptoSaid : Prop := sumPiecesUptoRow.holds Tryd.pinned (OpenSpec.upto sumPiecesSpec)

/-- 'heliographlaw01.SumTurned', WHERE WHAT IT READS IS OF BULK AT MOST 1048576: true; the input reads as it did. -/
def sumTurnedUptoRow : OpenClaim := { program := "ytibjnfllagaplaadoor", sum := "daae35c8fa84a2aaa159570c201c35553cf7aca535c5aa3fee9a3a331c223b31", func := "heliograph/heliographlaw01.SumTurned", spec := "sumTurned", named := ["heliograph/sum.fourSteps"], apart := false, laid := [("heliograph/sum.fourSteps", laid_heliograph_sum_fourSteps)], narrowed := true }
def SumTurnedUptoSaid : Prop := sumTurnedUptoRow.holds Tryd.pinned (OpenSpec.upto sumTurnedSpec)

/-- 'heliographlaw01.SumNil', WHERE WHAT IT READS IS OF BULK AT MOST 1048576: true; the input reads as it did. -/
def sumNilUptoRow : OpenClaim := { program := "ytibjnfllagaplaadoor", sum := "daae35c8fa84a2aaa159570c201c35553cf7aca535c5aa3fee9a3a331c223b31", func := "heliograph/heliographlaw01.SumNil", spec := "sumNil", named := ["heliograph/sum.fourSteps"], apart := false, laid := [("heliograph/sum.fourSteps", laid_heliograph_sum_fourSteps)], narrowed := true }
def SumNilUptoSaid : Prop := sumNilUptoRow.holds Tryd.pinned (OpenSpec.upto sumNilSpec)

/-- 'heliographlaw01.SumAlone', WHERE WHAT IT READS IS OF BULK AT MOST 1048576: true; the input reads as it did. -/
def sumAloneUptoRow : OpenClaim := { program := "ytibjnfllagaplaadoor", sum := "daae35c8fa84a2aaa159570c201c35553cf7aca535c5aa3fee9a3a331c223b31", func := "heliograph/heliographlaw01.SumAlone", spec := "sumAlone", named := ["heliograph/sum.fourSteps"], apart := false, laid := [("heliograph/sum.fourSteps", laid_heliograph_sum_fourSteps)], narrowed := true }
def SumAloneUptoSaid : Prop := sumAloneUptoRow.holds Tryd.pinned (OpenSpec.upto sumAloneSpec)

end Rows
end Go.Proofs.YtibjnfllagaplaaDoor
