/-
  NARROWER THAN 'FOR EVERY INPUT', by the rows' own cells (each row's printed sentence says how): BlockSorts: laid · BlockLooks: laid · BlockBuilds: laid · BlockBack: laid · BlockLater: laid · BlockMany: laid · BlockRanges: laid.
  DERIVED. THE GIVEN ROWS OF THIS SEAT. 7 by the template 'for every input the law returns true; each argument reads behind the call as it read before'; 0 by the template 'total and deterministic' (their statements: YtkomfenjeoaelaaDoorTotals.lean).
  GIVEN WITH THE SEED: the statements are not yours to turn. If you find one false, say at which input.
  Laid BY PROGRAM, IN A SANDBOX (cutbox-rows.mjs): the forced cells as the released guide's own fill.sh prints them over the translation 28b0f0a7ff6c11c9… (all of the seat's roots in one cut). By AI agents, Wed Nov 11 2026. No macro, syntax, notation, axiom, sorry.
-/
import Derived.Test.YtkomfenjeoaelaaDoorChecked
import GoSem.Claim
import GoSem.ClaimJoined
import GoSem.ClaimMapViews
import Derived.JoinedTies
import Derived.KernelRfl
namespace Go.Proofs.YtkomfenjeoaelaaDoor
/- THE CELL 'sum', in the pinned program and in every row, IS THE sha256 OF THE DUMP (.gsa) THAT YtkomfenjeoaelaaDoorProg.lean LOADS. Nothing in Lean hashes anything: it is a label: what it is worth is what the hold of that sum in a sandbox is worth. -/
noncomputable def Tryd.pinned : Pinned := { name := "ytkomfenjeoaelaadoor", sum := "28b0f0a7ff6c11c9cd48712938fed520a14189981826de6ae153542f3ef1b57f", checked := Tryd.checked }
namespace Rows
def none {H : Type} : Left H := { results := [], args := [] }

/- WHAT THE LISTED PACKAGE-LEVEL VARIABLES READ AS WHEN THE CALL BEGINS. Each datum BY PROGRAM (the guide's laid-datum.mjs) off the statement by which the dump's own 'gosem.cut.vars' lays the variable. In a bare row this is a premise. The card (YtkomfenjeoaelaaDoorCards.lean) ties it to the program's text. -/
def laid_heliograph_sum_fourSteps {H : Type} : DataW H := .agg [.lit (.int .u32 0), .lit (.int .u32 274646895), .lit (.int .u32 549293790), .lit (.int .u32 820201905), .lit (.int .u32 1098587580), .lit (.int .u32 1361435347), .lit (.int .u32 1640403810), .lit (.int .u32 1905808397), .lit (.int .u32 2197175160), .lit (.int .u32 2460548119), .lit (.int .u32 2722870694), .lit (.int .u32 2987750089), .lit (.int .u32 3280807620), .lit (.int .u32 3553878443), .lit (.int .u32 3811616794), .lit (.int .u32 4084100981)]

/-- 'heliographlaw12.BlockSorts': WHATEVER THE INPUT: true; the input reads as it did. -/
def blockSortsSpec : ChangeSpec := { name := "blockSorts", fn := fun _ => fun
  | [d1, d2] => { results := [.lit (.bool true)], args := [d1, d2] }
  | _ => none }
def blockSortsRow : OpenClaim := { program := "ytkomfenjeoaelaadoor", sum := "28b0f0a7ff6c11c9cd48712938fed520a14189981826de6ae153542f3ef1b57f", func := "heliograph/heliographlaw12.BlockSorts", spec := "blockSorts", unfollowed := true, recurses := true, named := ["heliograph/sum.fourSteps"], apart := false, laid := [("heliograph/sum.fourSteps", laid_heliograph_sum_fourSteps)] }
def BlockSortsSaid : Prop := blockSortsRow.holds Tryd.pinned (OpenSpec.ofChange blockSortsSpec)

/-- ITS FALSE NEIGHBOUR: 'it returns false'. Refute it at one input. -/
def blockSortsWrong : ChangeSpec := { name := "blockSorts", fn := fun _ => fun
  | [d1, d2] => { results := [.lit (.bool false)], args := [d1, d2] }
  | _ => none }
def BlockSortsWrongFalsely : Prop := blockSortsRow.holds Tryd.pinned (OpenSpec.ofChange blockSortsWrong)

/-- 'heliographlaw12.BlockLooks': WHATEVER THE INPUT: true; the input reads as it did. -/
def blockLooksSpec : ChangeSpec := { name := "blockLooks", fn := fun _ => fun
  | [d1, d2, d3] => { results := [.lit (.bool true)], args := [d1, d2, d3] }
  | _ => none }
def blockLooksRow : OpenClaim := { program := "ytkomfenjeoaelaadoor", sum := "28b0f0a7ff6c11c9cd48712938fed520a14189981826de6ae153542f3ef1b57f", func := "heliograph/heliographlaw12.BlockLooks", spec := "blockLooks", unfollowed := true, recurses := true, named := ["heliograph/sum.fourSteps"], apart := false, laid := [("heliograph/sum.fourSteps", laid_heliograph_sum_fourSteps)] }
def BlockLooksSaid : Prop := blockLooksRow.holds Tryd.pinned (OpenSpec.ofChange blockLooksSpec)

/-- ITS FALSE NEIGHBOUR: 'it returns false'. Refute it at one input. -/
def blockLooksWrong : ChangeSpec := { name := "blockLooks", fn := fun _ => fun
  | [d1, d2, d3] => { results := [.lit (.bool false)], args := [d1, d2, d3] }
  | _ => none }
def BlockLooksWrongFalsely : Prop := blockLooksRow.holds Tryd.pinned (OpenSpec.ofChange blockLooksWrong)

/-- 'heliographlaw12.BlockBuilds': WHATEVER THE INPUT: true; the input reads as it did. -/
def blockBuildsSpec : ChangeSpec := { name := "blockBuilds", fn := fun _ => fun
  | [d1, d2, d3] => { results := [.lit (.bool true)], args := [d1, d2, d3] }
  | _ => none }
def blockBuildsRow : OpenClaim := { program := "ytkomfenjeoaelaadoor", sum := "28b0f0a7ff6c11c9cd48712938fed520a14189981826de6ae153542f3ef1b57f", func := "heliograph/heliographlaw12.BlockBuilds", spec := "blockBuilds", unfollowed := true, recurses := true, named := ["heliograph/sum.fourSteps"], apart := false, laid := [("heliograph/sum.fourSteps", laid_heliograph_sum_fourSteps)] }
def BlockBuildsSaid : Prop := blockBuildsRow.holds Tryd.pinned (OpenSpec.ofChange blockBuildsSpec)

/-- ITS FALSE NEIGHBOUR: 'it returns false'. Refute it at one input. -/
def blockBuildsWrong : ChangeSpec := { name := "blockBuilds", fn := fun _ => fun
  | [d1, d2, d3] => { results := [.lit (.bool false)], args := [d1, d2, d3] }
  | _ => none }
def BlockBuildsWrongFalsely : Prop := blockBuildsRow.holds Tryd.pinned (OpenSpec.ofChange blockBuildsWrong)

/-- 'heliographlaw12.BlockBack': WHATEVER THE INPUT: true; the input reads as it did. -/
def blockBackSpec : ChangeSpec := { name := "blockBack", fn := fun _ => fun
  | [d1, d2, d3] => { results := [.lit (.bool true)], args := [d1, d2, d3] }
  | _ => none }
def blockBackRow : OpenClaim := { program := "ytkomfenjeoaelaadoor", sum := "28b0f0a7ff6c11c9cd48712938fed520a14189981826de6ae153542f3ef1b57f", func := "heliograph/heliographlaw12.BlockBack", spec := "blockBack", unfollowed := true, recurses := true, named := ["heliograph/sum.fourSteps"], apart := false, laid := [("heliograph/sum.fourSteps", laid_heliograph_sum_fourSteps)] }
def BlockBackSaid : Prop := blockBackRow.holds Tryd.pinned (OpenSpec.ofChange blockBackSpec)

/-- ITS FALSE NEIGHBOUR: 'it returns false'. Refute it at one input. -/
def blockBackWrong : ChangeSpec := { name := "blockBack", fn := fun _ => fun
  | [d1, d2, d3] => { results := [.lit (.bool false)], args := [d1, d2, d3] }
  | _ => none }
def BlockBackWrongFalsely : Prop := blockBackRow.holds Tryd.pinned (OpenSpec.ofChange blockBackWrong)

/-- 'heliographlaw12.BlockLater': WHATEVER THE INPUT: true; the input reads as it did. -/
def blockLaterSpec : ChangeSpec := { name := "blockLater", fn := fun _ => fun
  | [d1, d2, d3] => { results := [.lit (.bool true)], args := [d1, d2, d3] }
  | _ => none }
def blockLaterRow : OpenClaim := { program := "ytkomfenjeoaelaadoor", sum := "28b0f0a7ff6c11c9cd48712938fed520a14189981826de6ae153542f3ef1b57f", func := "heliograph/heliographlaw12.BlockLater", spec := "blockLater", unfollowed := true, recurses := true, named := ["heliograph/sum.fourSteps"], apart := false, laid := [("heliograph/sum.fourSteps", laid_heliograph_sum_fourSteps)] }
def BlockLaterSaid : Prop := blockLaterRow.holds Tryd.pinned (OpenSpec.ofChange blockLaterSpec)

/-- ITS FALSE NEIGHBOUR: 'it returns false'. Refute it at one input. -/
def blockLaterWrong : ChangeSpec := { name := "blockLater", fn := fun _ => fun
  | [d1, d2, d3] => { results := [.lit (.bool false)], args := [d1, d2, d3] }
  | _ => none }
def BlockLaterWrongFalsely : Prop := blockLaterRow.holds Tryd.pinned (OpenSpec.ofChange blockLaterWrong)

/-- 'heliographlaw12.BlockMany': WHATEVER THE INPUT: true; the input reads as it did. -/
def blockManySpec : ChangeSpec := { name := "blockMany", fn := fun _ => fun
  | [d] => { results := [.lit (.bool true)], args := [d] }
  | _ => none }
def blockManyRow : OpenClaim := { program := "ytkomfenjeoaelaadoor", sum := "28b0f0a7ff6c11c9cd48712938fed520a14189981826de6ae153542f3ef1b57f", func := "heliograph/heliographlaw12.BlockMany", spec := "blockMany", unfollowed := true, recurses := true, named := ["heliograph/sum.fourSteps"], apart := false, laid := [("heliograph/sum.fourSteps", laid_heliograph_sum_fourSteps)] }
def BlockManySaid : Prop := blockManyRow.holds Tryd.pinned (OpenSpec.ofChange blockManySpec)

/-- ITS FALSE NEIGHBOUR: 'it returns false'. Refute it at one input. -/
def blockManyWrong : ChangeSpec := { name := "blockMany", fn := fun _ => fun
  | [d] => { results := [.lit (.bool false)], args := [d] }
  | _ => none }
def BlockManyWrongFalsely : Prop := blockManyRow.holds Tryd.pinned (OpenSpec.ofChange blockManyWrong)

/-- 'heliographlaw12.BlockRanges': WHATEVER THE INPUT: true; the input reads as it did. -/
def blockRangesSpec : ChangeSpec := { name := "blockRanges", fn := fun _ => fun
  | [d1, d2] => { results := [.lit (.bool true)], args := [d1, d2] }
  | _ => none }
def blockRangesRow : OpenClaim := { program := "ytkomfenjeoaelaadoor", sum := "28b0f0a7ff6c11c9cd48712938fed520a14189981826de6ae153542f3ef1b57f", func := "heliograph/heliographlaw12.BlockRanges", spec := "blockRanges", unfollowed := true, recurses := true, named := ["heliograph/sum.fourSteps"], apart := false, laid := [("heliograph/sum.fourSteps", laid_heliograph_sum_fourSteps)] }
def BlockRangesSaid : Prop := blockRangesRow.holds Tryd.pinned (OpenSpec.ofChange blockRangesSpec)

/-- ITS FALSE NEIGHBOUR: 'it returns false'. Refute it at one input. -/
def blockRangesWrong : ChangeSpec := { name := "blockRanges", fn := fun _ => fun
  | [d1, d2] => { results := [.lit (.bool false)], args := [d1, d2] }
  | _ => none }
def BlockRangesWrongFalsely : Prop := blockRangesRow.holds Tryd.pinned (OpenSpec.ofChange blockRangesWrong)

/- THE SECOND FORM. 'bulk': how many values and letters a reading holds, each counted each time it is reached (what is shared counts as often as it is met; a slice's spare places count too). A statement '..UptoSaid' is the law's where the arguments, and the package variables that the reading takes, are together of bulk at most 1048576: NARROWER than '..Said'. Prove '..Said' where nothing that the law and all that it calls make is longer than what came in: it says more and counts as full. Else prove '..UptoSaid'. A law counts once. -/
mutual
def uptoBulk {H : Type} : DataW H → Nat
  | .lit (.string bytes) => bytes.length + 1
  | .lit _ => 1
  | .nil => 1
  | .ptr d => uptoBulk d + 1
  | .slice elems spare => uptoBulkAll elems + uptoBulkAll spare + 1
  | .agg parts => uptoBulkAll parts + 1
  | .iface _ d => uptoBulk d + 1
  | .map entries => uptoBulkEntries entries + 1
  | .held _ => 1
def uptoBulkAll {H : Type} : List (DataW H) → Nat
  | [] => 0
  | d :: r => uptoBulk d + uptoBulkAll r
def uptoBulkEntries {H : Type} : List (Lit × DataW H) → Nat
  | [] => 0
  | x :: r => uptoBulkEntry x + uptoBulkEntries r
def uptoBulkEntry {H : Type} : Lit × DataW H → Nat
  | (.string bytes, d) => bytes.length + uptoBulk d + 1
  | (_, d) => uptoBulk d + 1
 end
def uptoSmall : (H : Type) → List (DataW H) → Bool := fun _ ds => decide (uptoBulkAll ds ≤ 1048576)
def OpenSpec.upto (s : _root_.Go.ChangeSpec) : _root_.Go.OpenSpec := { _root_.Go.OpenSpec.ofChange s with cond := some uptoSmall }

/-- 'heliographlaw12.BlockSorts', WHERE WHAT IT READS IS OF BULK AT MOST 1048576: true; the input reads as it did. -/
def blockSortsUptoRow : OpenClaim := { program := "ytkomfenjeoaelaadoor", sum := "28b0f0a7ff6c11c9cd48712938fed520a14189981826de6ae153542f3ef1b57f", func := "heliograph/heliographlaw12.BlockSorts", spec := "blockSorts", unfollowed := true, recurses := true, named := ["heliograph/sum.fourSteps"], apart := false, laid := [("heliograph/sum.fourSteps", laid_heliograph_sum_fourSteps)], narrowed := true }
def BlockSortsUptoSaid : Prop := blockSortsUptoRow.holds Tryd.pinned (OpenSpec.upto blockSortsSpec)

/-- 'heliographlaw12.BlockLooks', WHERE WHAT IT READS IS OF BULK AT MOST 1048576: true; the input reads as it did. -/
def blockLooksUptoRow : OpenClaim := { program := "ytkomfenjeoaelaadoor", sum := "28b0f0a7ff6c11c9cd48712938fed520a14189981826de6ae153542f3ef1b57f", func := "heliograph/heliographlaw12.BlockLooks", spec := "blockLooks", unfollowed := true, recurses := true, named := ["heliograph/sum.fourSteps"], apart := false, laid := [("heliograph/sum.fourSteps", laid_heliograph_sum_fourSteps)], narrowed := true }
def BlockLooksUptoSaid : Prop := blockLooksUptoRow.holds Tryd.pinned (OpenSpec.upto blockLooksSpec)

/-- 'heliographlaw12.BlockBuilds', WHERE WHAT IT READS IS OF BULK AT MOST 1048576: true; the input reads as it did. -/
def blockBuildsUptoRow : OpenClaim := { program := "ytkomfenjeoaelaadoor", sum := "28b0f0a7ff6c11c9cd48712938fed520a14189981826de6ae153542f3ef1b57f", func := "heliograph/heliographlaw12.BlockBuilds", spec := "blockBuilds", unfollowed := true, recurses := true, named := ["heliograph/sum.fourSteps"], apart := false, laid := [("heliograph/sum.fourSteps", laid_heliograph_sum_fourSteps)], narrowed := true }
def BlockBuildsUptoSaid : Prop := blockBuildsUptoRow.holds Tryd.pinned (OpenSpec.upto blockBuildsSpec)

/-- 'heliographlaw12.BlockBack', WHERE WHAT IT READS IS OF BULK AT MOST 1048576: true; the input reads as it did. -/
def blockBackUptoRow : OpenClaim := { program := "ytkomfenjeoaelaadoor", sum := "28b0f0a7ff6c11c9cd48712938fed520a14189981826de6ae153542f3ef1b57f", func := "heliograph/heliographlaw12.BlockBack", spec := "blockBack", unfollowed := true, recurses := true, named := ["heliograph/sum.fourSteps"], apart := false, laid := [("heliograph/sum.fourSteps", laid_heliograph_sum_fourSteps)], narrowed := true }
def BlockBackUptoSaid : Prop := blockBackUptoRow.holds Tryd.pinned (OpenSpec.upto blockBackSpec)

/-- 'heliographlaw12.BlockLater', WHERE WHAT IT READS IS OF BULK AT MOST 1048576: true; the input reads as it did. -/
def blockLaterUptoRow : OpenClaim := { program := "ytkomfenjeoaelaadoor", sum := "28b0f0a7ff6c11c9cd48712938fed520a14189981826de6ae153542f3ef1b57f", func := "heliograph/heliographlaw12.BlockLater", spec := "blockLater", unfollowed := true, recurses := true, named := ["heliograph/sum.fourSteps"], apart := false, laid := [("heliograph/sum.fourSteps", laid_heliograph_sum_fourSteps)], narrowed := true }
def BlockLaterUptoSaid : Prop := blockLaterUptoRow.holds Tryd.pinned (OpenSpec.upto blockLaterSpec)

/-- 'heliographlaw12.BlockMany', WHERE WHAT IT READS IS OF BULK AT MOST 1048576: true; the input reads as it did. -/
def blockManyUptoRow : OpenClaim := { program := "ytkomfenjeoaelaadoor", sum := "28b0f0a7ff6c11c9cd48712938fed520a14189981826de6ae153542f3ef1b57f", func := "heliograph/heliographlaw12.BlockMany", spec := "blockMany", unfollowed := true, recurses := true, named := ["heliograph/sum.fourSteps"], apart := false, laid := [("heliograph/sum.fourSteps", laid_heliograph_sum_fourSteps)], narrowed := true }
def BlockManyUptoSaid : Prop := blockManyUptoRow.holds Tryd.pinned (OpenSpec.upto blockManySpec)

/-- 'heliographlaw12.BlockRanges', WHERE WHAT IT READS IS OF BULK AT MOST 1048576: true; the input reads as it did. -/
def blockRangesUptoRow : OpenClaim := { program := "ytkomfenjeoaelaadoor", sum := "28b0f0a7ff6c11c9cd48712938fed520a14189981826de6ae153542f3ef1b57f", func := "heliograph/heliographlaw12.BlockRanges", spec := "blockRanges", unfollowed := true, recurses := true, named := ["heliograph/sum.fourSteps"], apart := false, laid := [("heliograph/sum.fourSteps", laid_heliograph_sum_fourSteps)], narrowed := true }
def BlockRangesUptoSaid : Prop := blockRangesUptoRow.holds Tryd.pinned (OpenSpec.upto blockRangesSpec)

end Rows
end Go.Proofs.YtkomfenjeoaelaaDoor
