/-
  NARROWER THAN 'FOR EVERY INPUT', by the rows' own cells (each row's printed sentence says how): FramePuts: laid · FrameGets: laid · FramePlays: laid · FrameBack: laid · FrameCuts: laid · FrameNil: laid · FrameJoins: laid.
  DERIVED. THE GIVEN ROWS OF THIS SEAT. 7 by the template 'for every input the law returns true; each argument reads behind the call as it read before'; 0 by the template 'total and deterministic' (their statements: YtanlnoephhjhhaaDoorTotals.lean).
  GIVEN WITH THE SEED: the statements are not yours to turn. If you find one false, say at which input.
  Laid BY PROGRAM, IN A SANDBOX (cutbox-rows.mjs): the forced cells as the released guide's own fill.sh prints them over the translation d9810b8d7dcaf4ac… (all of the seat's roots in one cut). By AI agents, Wed Nov 11 2026. No macro, syntax, notation, axiom, sorry.
-/
import Derived.Test.YtanlnoephhjhhaaDoorChecked
import GoSem.Claim
import GoSem.ClaimJoined
import GoSem.ClaimMapViews
import Derived.JoinedTies
import Derived.KernelRfl
namespace Go.Proofs.YtanlnoephhjhhaaDoor
/- THE CELL 'sum', in the pinned program and in every row, IS THE sha256 OF THE DUMP (.gsa) THAT YtanlnoephhjhhaaDoorProg.lean LOADS. Nothing in Lean hashes anything: it is a label: what it is worth is what the hold of that sum in a sandbox is worth. -/
noncomputable def Tryd.pinned : Pinned := { name := "ytanlnoephhjhhaadoor", sum := "d9810b8d7dcaf4ac303c14b1040d978f904c591d0fda5d72b5f0f180c9c4ddd6", checked := Tryd.checked }
namespace Rows
def none {H : Type} : Left H := { results := [], args := [] }

/- WHAT THE LISTED PACKAGE-LEVEL VARIABLES READ AS WHEN THE CALL BEGINS. Each datum BY PROGRAM (the guide's laid-datum.mjs) off the statement by which the dump's own 'gosem.cut.vars' lays the variable. In a bare row this is a premise. The card (YtanlnoephhjhhaaDoorCards.lean) ties it to the program's text. -/
def laid_heliograph_sum_fourSteps {H : Type} : DataW H := .agg [.lit (.int .u32 0), .lit (.int .u32 274646895), .lit (.int .u32 549293790), .lit (.int .u32 820201905), .lit (.int .u32 1098587580), .lit (.int .u32 1361435347), .lit (.int .u32 1640403810), .lit (.int .u32 1905808397), .lit (.int .u32 2197175160), .lit (.int .u32 2460548119), .lit (.int .u32 2722870694), .lit (.int .u32 2987750089), .lit (.int .u32 3280807620), .lit (.int .u32 3553878443), .lit (.int .u32 3811616794), .lit (.int .u32 4084100981)]

/-- 'heliographlaw05.FramePuts': WHATEVER THE INPUT: true; the input reads as it did. -/
def framePutsSpec : ChangeSpec := { name := "framePuts", fn := fun _ => fun
  | [d1, d2] => { results := [.lit (.bool true)], args := [d1, d2] }
  | _ => none }
def framePutsRow : OpenClaim := { program := "ytanlnoephhjhhaadoor", sum := "d9810b8d7dcaf4ac303c14b1040d978f904c591d0fda5d72b5f0f180c9c4ddd6", func := "heliograph/heliographlaw05.FramePuts", spec := "framePuts", named := ["heliograph/sum.fourSteps"], apart := false, laid := [("heliograph/sum.fourSteps", laid_heliograph_sum_fourSteps)] }
def FramePutsSaid : Prop := framePutsRow.holds Tryd.pinned (OpenSpec.ofChange framePutsSpec)

/-- ITS FALSE NEIGHBOUR: 'it returns false'. Refute it at one input. -/
def framePutsWrong : ChangeSpec := { name := "framePuts", fn := fun _ => fun
  | [d1, d2] => { results := [.lit (.bool false)], args := [d1, d2] }
  | _ => none }
def FramePutsWrongFalsely : Prop := framePutsRow.holds Tryd.pinned (OpenSpec.ofChange framePutsWrong)

/-- 'heliographlaw05.FrameGets': WHATEVER THE INPUT: true; the input reads as it did. -/
def frameGetsSpec : ChangeSpec := { name := "frameGets", fn := fun _ => fun
  | [d1, d2] => { results := [.lit (.bool true)], args := [d1, d2] }
  | _ => none }
def frameGetsRow : OpenClaim := { program := "ytanlnoephhjhhaadoor", sum := "d9810b8d7dcaf4ac303c14b1040d978f904c591d0fda5d72b5f0f180c9c4ddd6", func := "heliograph/heliographlaw05.FrameGets", spec := "frameGets", named := ["heliograph/sum.fourSteps"], apart := false, laid := [("heliograph/sum.fourSteps", laid_heliograph_sum_fourSteps)] }
def FrameGetsSaid : Prop := frameGetsRow.holds Tryd.pinned (OpenSpec.ofChange frameGetsSpec)

/-- ITS FALSE NEIGHBOUR: 'it returns false'. Refute it at one input. -/
def frameGetsWrong : ChangeSpec := { name := "frameGets", fn := fun _ => fun
  | [d1, d2] => { results := [.lit (.bool false)], args := [d1, d2] }
  | _ => none }
def FrameGetsWrongFalsely : Prop := frameGetsRow.holds Tryd.pinned (OpenSpec.ofChange frameGetsWrong)

/-- 'heliographlaw05.FramePlays': WHATEVER THE INPUT: true; the input reads as it did. -/
def framePlaysSpec : ChangeSpec := { name := "framePlays", fn := fun _ => fun
  | [d1, d2] => { results := [.lit (.bool true)], args := [d1, d2] }
  | _ => none }
def framePlaysRow : OpenClaim := { program := "ytanlnoephhjhhaadoor", sum := "d9810b8d7dcaf4ac303c14b1040d978f904c591d0fda5d72b5f0f180c9c4ddd6", func := "heliograph/heliographlaw05.FramePlays", spec := "framePlays", named := ["heliograph/sum.fourSteps"], apart := false, laid := [("heliograph/sum.fourSteps", laid_heliograph_sum_fourSteps)] }
def FramePlaysSaid : Prop := framePlaysRow.holds Tryd.pinned (OpenSpec.ofChange framePlaysSpec)

/-- ITS FALSE NEIGHBOUR: 'it returns false'. Refute it at one input. -/
def framePlaysWrong : ChangeSpec := { name := "framePlays", fn := fun _ => fun
  | [d1, d2] => { results := [.lit (.bool false)], args := [d1, d2] }
  | _ => none }
def FramePlaysWrongFalsely : Prop := framePlaysRow.holds Tryd.pinned (OpenSpec.ofChange framePlaysWrong)

/-- 'heliographlaw05.FrameBack': WHATEVER THE INPUT: true; the input reads as it did. -/
def frameBackSpec : ChangeSpec := { name := "frameBack", fn := fun _ => fun
  | [d1, d2] => { results := [.lit (.bool true)], args := [d1, d2] }
  | _ => none }
def frameBackRow : OpenClaim := { program := "ytanlnoephhjhhaadoor", sum := "d9810b8d7dcaf4ac303c14b1040d978f904c591d0fda5d72b5f0f180c9c4ddd6", func := "heliograph/heliographlaw05.FrameBack", spec := "frameBack", named := ["heliograph/sum.fourSteps"], apart := false, laid := [("heliograph/sum.fourSteps", laid_heliograph_sum_fourSteps)] }
def FrameBackSaid : Prop := frameBackRow.holds Tryd.pinned (OpenSpec.ofChange frameBackSpec)

/-- ITS FALSE NEIGHBOUR: 'it returns false'. Refute it at one input. -/
def frameBackWrong : ChangeSpec := { name := "frameBack", fn := fun _ => fun
  | [d1, d2] => { results := [.lit (.bool false)], args := [d1, d2] }
  | _ => none }
def FrameBackWrongFalsely : Prop := frameBackRow.holds Tryd.pinned (OpenSpec.ofChange frameBackWrong)

/-- 'heliographlaw05.FrameCuts': WHATEVER THE INPUT: true; the input reads as it did. -/
def frameCutsSpec : ChangeSpec := { name := "frameCuts", fn := fun _ => fun
  | [d1, d2, d3] => { results := [.lit (.bool true)], args := [d1, d2, d3] }
  | _ => none }
def frameCutsRow : OpenClaim := { program := "ytanlnoephhjhhaadoor", sum := "d9810b8d7dcaf4ac303c14b1040d978f904c591d0fda5d72b5f0f180c9c4ddd6", func := "heliograph/heliographlaw05.FrameCuts", spec := "frameCuts", named := ["heliograph/sum.fourSteps"], apart := false, laid := [("heliograph/sum.fourSteps", laid_heliograph_sum_fourSteps)] }
def FrameCutsSaid : Prop := frameCutsRow.holds Tryd.pinned (OpenSpec.ofChange frameCutsSpec)

/-- ITS FALSE NEIGHBOUR: 'it returns false'. Refute it at one input. -/
def frameCutsWrong : ChangeSpec := { name := "frameCuts", fn := fun _ => fun
  | [d1, d2, d3] => { results := [.lit (.bool false)], args := [d1, d2, d3] }
  | _ => none }
def FrameCutsWrongFalsely : Prop := frameCutsRow.holds Tryd.pinned (OpenSpec.ofChange frameCutsWrong)

/-- 'heliographlaw05.FrameNil': WHATEVER THE INPUT: true; the input reads as it did. -/
def frameNilSpec : ChangeSpec := { name := "frameNil", fn := fun _ => fun
  | [d] => { results := [.lit (.bool true)], args := [d] }
  | _ => none }
def frameNilRow : OpenClaim := { program := "ytanlnoephhjhhaadoor", sum := "d9810b8d7dcaf4ac303c14b1040d978f904c591d0fda5d72b5f0f180c9c4ddd6", func := "heliograph/heliographlaw05.FrameNil", spec := "frameNil", named := ["heliograph/sum.fourSteps"], apart := false, laid := [("heliograph/sum.fourSteps", laid_heliograph_sum_fourSteps)] }
def FrameNilSaid : Prop := frameNilRow.holds Tryd.pinned (OpenSpec.ofChange frameNilSpec)

/-- ITS FALSE NEIGHBOUR: 'it returns false'. Refute it at one input. -/
def frameNilWrong : ChangeSpec := { name := "frameNil", fn := fun _ => fun
  | [d] => { results := [.lit (.bool false)], args := [d] }
  | _ => none }
def FrameNilWrongFalsely : Prop := frameNilRow.holds Tryd.pinned (OpenSpec.ofChange frameNilWrong)

/-- 'heliographlaw05.FrameJoins': WHATEVER THE INPUT: true; the input reads as it did. -/
def frameJoinsSpec : ChangeSpec := { name := "frameJoins", fn := fun _ => fun
  | [d1, d2, d3] => { results := [.lit (.bool true)], args := [d1, d2, d3] }
  | _ => none }
def frameJoinsRow : OpenClaim := { program := "ytanlnoephhjhhaadoor", sum := "d9810b8d7dcaf4ac303c14b1040d978f904c591d0fda5d72b5f0f180c9c4ddd6", func := "heliograph/heliographlaw05.FrameJoins", spec := "frameJoins", named := ["heliograph/sum.fourSteps"], apart := false, laid := [("heliograph/sum.fourSteps", laid_heliograph_sum_fourSteps)] }
def FrameJoinsSaid : Prop := frameJoinsRow.holds Tryd.pinned (OpenSpec.ofChange frameJoinsSpec)

/-- ITS FALSE NEIGHBOUR: 'it returns false'. Refute it at one input. -/
def frameJoinsWrong : ChangeSpec := { name := "frameJoins", fn := fun _ => fun
  | [d1, d2, d3] => { results := [.lit (.bool false)], args := [d1, d2, d3] }
  | _ => none }
def FrameJoinsWrongFalsely : Prop := frameJoinsRow.holds Tryd.pinned (OpenSpec.ofChange frameJoinsWrong)

/- THE SECOND FORM. 'bulk': how many values and letters a reading holds, each counted each time it is reached (what is shared counts as often as it is met; a slice's spare places count too). A statement '..UptoSaid' is the law's where the arguments, and the package variables that the reading takes, are together of bulk at most 1048576: NARROWER than '..Said'. Prove '..Said' where nothing that the law and all that it calls make is longer than what came in: it says more and counts as full. Else prove '..UptoSaid'. A law counts once. -/
mutual
def uptoBulk {H : Type} : DataW H → Nat
  | .lit (.string bytes) => bytes.length + 1
  | .lit _ => 1
  | .nil => 1
  | .ptr d => uptoBulk d + 1
  | .slice elems spare => uptoBulkAll elems + uptoBulkAll spare + 1
  | .agg parts => uptoBulkAll parts + 1
  | .iface _ d => uptoBulk d + 1
  | .map entries => uptoBulkEntries entries + 1
  | .held _ => 1
def uptoBulkAll {H : Type} : List (DataW H) → Nat
  | [] => 0
  | d :: r => uptoBulk d + uptoBulkAll r
def uptoBulkEntries {H : Type} : List (Lit × DataW H) → Nat
  | [] => 0
  | x :: r => uptoBulkEntry x + uptoBulkEntries r
def uptoBulkEntry {H : Type} : Lit × DataW H → Nat
  | (.string bytes, d) => bytes.length + uptoBulk d + 1
  | (_, d) => uptoBulk d + 1
 end
def uptoSmall : (H : Type) → List (DataW H) → Bool := fun _ ds => decide (uptoBulkAll ds ≤ 1048576)
def OpenSpec.upto (s : _root_.Go.ChangeSpec) : _root_.Go.OpenSpec := { _root_.Go.OpenSpec.ofChange s with cond := some uptoSmall }

/-- 'heliographlaw05.FramePuts', WHERE WHAT IT READS IS OF BULK AT MOST 1048576: true; the input reads as it did. -/
def framePutsUptoRow : OpenClaim := { program := "ytanlnoephhjhhaadoor", sum := "d9810b8d7dcaf4ac303c14b1040d978f904c591d0fda5d72b5f0f180c9c4ddd6", func := "heliograph/heliographlaw05.FramePuts", spec := "framePuts", named := ["heliograph/sum.fourSteps"], apart := false, laid := [("heliograph/sum.fourSteps", laid_heliograph_sum_fourSteps)], narrowed := true }
def FramePutsUptoSaid : Prop := framePutsUptoRow.holds Tryd.pinned (OpenSpec.upto framePutsSpec)

/-- 'heliographlaw05.FrameGets', WHERE WHAT IT READS IS OF BULK AT MOST 1048576: true; the input reads as it did. -/
def frameGetsUptoRow : OpenClaim := { program := "ytanlnoephhjhhaadoor", sum := "d9810b8d7dcaf4ac303c14b1040d978f904c591d0fda5d72b5f0f180c9c4ddd6", func := "heliograph/heliographlaw05.FrameGets", spec := "frameGets", named := ["heliograph/sum.fourSteps"], apart := false, laid := [("heliograph/sum.fourSteps", laid_heliograph_sum_fourSteps)], narrowed := true }
def FrameGetsUptoSaid : Prop := frameGetsUptoRow.holds Tryd.pinned (OpenSpec.upto frameGetsSpec)

/-- 'heliographlaw05.FramePlays', WHERE WHAT IT READS IS OF BULK AT MOST 1048576: true; the input reads as it did. -/
def framePlaysUptoRow : OpenClaim := { program := "ytanlnoephhjhhaadoor", sum := "d9810b8d7dcaf4ac303c14b1040d978f904c591d0fda5d72b5f0f180c9c4ddd6", func := "heliograph/heliographlaw05.FramePlays", spec := "framePlays", named := ["heliograph/sum.fourSteps"], apart := false, laid := [("heliograph/sum.fourSteps", laid_heliograph_sum_fourSteps)], narrowed := true }
def FramePlaysUptoSaid : Prop := framePlaysUptoRow.holds Tryd.pinned (OpenSpec.upto framePlaysSpec)

/-- 'heliographlaw05.FrameBack', WHERE WHAT IT READS IS OF BULK AT MOST 1048576: true; the input reads as it did. -/
def frameBackUptoRow : OpenClaim := { program := "ytanlnoephhjhhaadoor", sum := "d9810b8d7dcaf4ac303c14b1040d978f904c591d0fda5d72b5f0f180c9c4ddd6", func := "heliograph/heliographlaw05.FrameBack", spec := "frameBack", named := ["heliograph/sum.fourSteps"], apart := false, laid := [("heliograph/sum.fourSteps", laid_heliograph_sum_fourSteps)], narrowed := true }
def FrameBackUptoSaid : Prop := frameBackUptoRow.holds Tryd.pinned (OpenSpec.upto frameBackSpec)

/-- 'heliographlaw05.FrameCuts', WHERE WHAT IT READS IS OF BULK AT MOST 1048576: true; the input reads as it did. -/
def frameCutsUptoRow : OpenClaim := { program := "ytanlnoephhjhhaadoor", sum := "d9810b8d7dcaf4ac303c14b1040d978f904c591d0fda5d72b5f0f180c9c4ddd6", func := "heliograph/heliographlaw05.FrameCuts", spec := "frameCuts", named := ["heliograph/sum.fourSteps"], apart := false, laid := [("heliograph/sum.fourSteps", laid_heliograph_sum_fourSteps)], narrowed := true }
def FrameCutsUptoSaid : Prop := frameCutsUptoRow.holds Tryd.pinned (OpenSpec.upto frameCutsSpec)

/-- 'heliographlaw05.FrameNil', WHERE WHAT IT READS IS OF BULK AT MOST 1048576: true; the input reads as it did. -/
def frameNilUptoRow : OpenClaim := { program := "ytanlnoephhjhhaadoor", sum := "d9810b8d7dcaf4ac303c14b1040d978f904c591d0fda5d72b5f0f180c9c4ddd6", func := "heliograph/heliographlaw05.FrameNil", spec := "frameNil", named := ["heliograph/sum.fourSteps"], apart := false, laid := [("heliograph/sum.fourSteps", laid_heliograph_sum_fourSteps)], narrowed := true }
def FrameNilUptoSaid : Prop := frameNilUptoRow.holds Tryd.pinned (OpenSpec.upto frameNilSpec)

/-- 'heliographlaw05.FrameJoins', WHERE WHAT IT READS IS OF BULK AT MOST 1048576: true; the input reads as it did. -/
def frameJoinsUptoRow : OpenClaim := { program := "ytanlnoephhjhhaadoor", sum := "d9810b8d7dcaf4ac303c14b1040d978f904c591d0fda5d72b5f0f180c9c4ddd6", func := "heliograph/heliographlaw05.FrameJoins", spec := "frameJoins", named := ["heliograph/sum.fourSteps"], apart := false, laid := [("heliograph/sum.fourSteps", laid_heliograph_sum_fourSteps)], narrowed := true }
def FrameJoinsUptoSaid : Prop := frameJoinsUptoRow.holds Tryd.pinned (OpenSpec.upto frameJoinsSpec)

end Rows
end Go.Proofs.YtanlnoephhjhhaaDoor
