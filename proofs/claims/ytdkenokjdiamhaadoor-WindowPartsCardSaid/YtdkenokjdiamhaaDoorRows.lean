/-
  NARROWER THAN 'FOR EVERY INPUT', by the rows' own cells (each row's printed sentence says how): WindowTimes: laid · WindowSpans: laid · WindowSets: laid · WindowParts: laid · WindowMeets: laid · WindowNil: laid · WindowTakes: laid.
  DERIVED. THE GIVEN ROWS OF THIS SEAT. 7 by the template 'for every input the law returns true; each argument reads behind the call as it read before'; 0 by the template 'total and deterministic' (their statements: YtdkenokjdiamhaaDoorTotals.lean).
  GIVEN WITH THE SEED: the statements are not yours to turn. If you find one false, say at which input.
  Laid BY PROGRAM, IN A SANDBOX (cutbox-rows.mjs): the forced cells as the released guide's own fill.sh prints them over the translation 91b09153eaef7dbb… (all of the seat's roots in one cut). By AI agents, Wed Nov 11 2026. No macro, syntax, notation, axiom, sorry.
-/
import Derived.Test.YtdkenokjdiamhaaDoorChecked
import GoSem.Claim
import GoSem.ClaimJoined
import GoSem.ClaimMapViews
import Derived.JoinedTies
import Derived.KernelRfl
namespace Go.Proofs.YtdkenokjdiamhaaDoor
/- THE CELL 'sum', in the pinned program and in every row, IS THE sha256 OF THE DUMP (.gsa) THAT YtdkenokjdiamhaaDoorProg.lean LOADS. Nothing in Lean hashes anything: it is a label: what it is worth is what the hold of that sum in a sandbox is worth. -/
noncomputable def Tryd.pinned : Pinned := { name := "ytdkenokjdiamhaadoor", sum := "91b09153eaef7dbb0b28f963f622634cd2fa29ba494fe9d18781e4cfc49eae8b", checked := Tryd.checked }
namespace Rows
def none {H : Type} : Left H := { results := [], args := [] }

/- WHAT THE LISTED PACKAGE-LEVEL VARIABLES READ AS WHEN THE CALL BEGINS. Each datum BY PROGRAM (the guide's laid-datum.mjs) off the statement by which the dump's own 'gosem.cut.vars' lays the variable. In a bare row this is a premise. The card (YtdkenokjdiamhaaDoorCards.lean) ties it to the program's text. -/
def laid_heliograph_window_widths {H : Type} : DataW H := .agg [.lit (.int .i64 1), .lit (.int .i64 10), .lit (.int .i64 60), .lit (.int .i64 3600)]

/-- 'heliographlaw07.WindowTimes': WHATEVER THE INPUT: true; the input reads as it did. -/
def windowTimesSpec : ChangeSpec := { name := "windowTimes", fn := fun _ => fun
  | [d1, d2] => { results := [.lit (.bool true)], args := [d1, d2] }
  | _ => none }
def windowTimesRow : OpenClaim := { program := "ytdkenokjdiamhaadoor", sum := "91b09153eaef7dbb0b28f963f622634cd2fa29ba494fe9d18781e4cfc49eae8b", func := "heliograph/heliographlaw07.WindowTimes", spec := "windowTimes", inPlace := ["slices.overlaps[heliograph/api.Span]"], unfollowed := true, recurses := true, named := ["heliograph/window.widths"], apart := false, laid := [("heliograph/window.widths", laid_heliograph_window_widths)] }
def WindowTimesSaid : Prop := windowTimesRow.holds Tryd.pinned (OpenSpec.ofChange windowTimesSpec)

/-- ITS FALSE NEIGHBOUR: 'it returns false'. Refute it at one input. -/
def windowTimesWrong : ChangeSpec := { name := "windowTimes", fn := fun _ => fun
  | [d1, d2] => { results := [.lit (.bool false)], args := [d1, d2] }
  | _ => none }
def WindowTimesWrongFalsely : Prop := windowTimesRow.holds Tryd.pinned (OpenSpec.ofChange windowTimesWrong)

/-- 'heliographlaw07.WindowSpans': WHATEVER THE INPUT: true; the input reads as it did. -/
def windowSpansSpec : ChangeSpec := { name := "windowSpans", fn := fun _ => fun
  | [d1, d2, d3] => { results := [.lit (.bool true)], args := [d1, d2, d3] }
  | _ => none }
def windowSpansRow : OpenClaim := { program := "ytdkenokjdiamhaadoor", sum := "91b09153eaef7dbb0b28f963f622634cd2fa29ba494fe9d18781e4cfc49eae8b", func := "heliograph/heliographlaw07.WindowSpans", spec := "windowSpans", inPlace := ["slices.overlaps[heliograph/api.Span]"], unfollowed := true, recurses := true, named := ["heliograph/window.widths"], apart := false, laid := [("heliograph/window.widths", laid_heliograph_window_widths)] }
def WindowSpansSaid : Prop := windowSpansRow.holds Tryd.pinned (OpenSpec.ofChange windowSpansSpec)

/-- ITS FALSE NEIGHBOUR: 'it returns false'. Refute it at one input. -/
def windowSpansWrong : ChangeSpec := { name := "windowSpans", fn := fun _ => fun
  | [d1, d2, d3] => { results := [.lit (.bool false)], args := [d1, d2, d3] }
  | _ => none }
def WindowSpansWrongFalsely : Prop := windowSpansRow.holds Tryd.pinned (OpenSpec.ofChange windowSpansWrong)

/-- 'heliographlaw07.WindowSets': WHATEVER THE INPUT: true; the input reads as it did. -/
def windowSetsSpec : ChangeSpec := { name := "windowSets", fn := fun _ => fun
  | [d1, d2] => { results := [.lit (.bool true)], args := [d1, d2] }
  | _ => none }
def windowSetsRow : OpenClaim := { program := "ytdkenokjdiamhaadoor", sum := "91b09153eaef7dbb0b28f963f622634cd2fa29ba494fe9d18781e4cfc49eae8b", func := "heliograph/heliographlaw07.WindowSets", spec := "windowSets", inPlace := ["slices.overlaps[heliograph/api.Span]"], unfollowed := true, recurses := true, named := ["heliograph/window.widths"], apart := false, laid := [("heliograph/window.widths", laid_heliograph_window_widths)] }
def WindowSetsSaid : Prop := windowSetsRow.holds Tryd.pinned (OpenSpec.ofChange windowSetsSpec)

/-- ITS FALSE NEIGHBOUR: 'it returns false'. Refute it at one input. -/
def windowSetsWrong : ChangeSpec := { name := "windowSets", fn := fun _ => fun
  | [d1, d2] => { results := [.lit (.bool false)], args := [d1, d2] }
  | _ => none }
def WindowSetsWrongFalsely : Prop := windowSetsRow.holds Tryd.pinned (OpenSpec.ofChange windowSetsWrong)

/-- 'heliographlaw07.WindowParts': WHATEVER THE INPUT: true; the input reads as it did. -/
def windowPartsSpec : ChangeSpec := { name := "windowParts", fn := fun _ => fun
  | [d1, d2, d3] => { results := [.lit (.bool true)], args := [d1, d2, d3] }
  | _ => none }
def windowPartsRow : OpenClaim := { program := "ytdkenokjdiamhaadoor", sum := "91b09153eaef7dbb0b28f963f622634cd2fa29ba494fe9d18781e4cfc49eae8b", func := "heliograph/heliographlaw07.WindowParts", spec := "windowParts", inPlace := ["slices.overlaps[heliograph/api.Span]"], unfollowed := true, recurses := true, named := ["heliograph/window.widths"], apart := false, laid := [("heliograph/window.widths", laid_heliograph_window_widths)] }
def WindowPartsSaid : Prop := windowPartsRow.holds Tryd.pinned (OpenSpec.ofChange windowPartsSpec)

/-- ITS FALSE NEIGHBOUR: 'it returns false'. Refute it at one input. -/
def windowPartsWrong : ChangeSpec := { name := "windowParts", fn := fun _ => fun
  | [d1, d2, d3] => { results := [.lit (.bool false)], args := [d1, d2, d3] }
  | _ => none }
def WindowPartsWrongFalsely : Prop := windowPartsRow.holds Tryd.pinned (OpenSpec.ofChange windowPartsWrong)

/-- 'heliographlaw07.WindowMeets': WHATEVER THE INPUT: true; the input reads as it did. -/
def windowMeetsSpec : ChangeSpec := { name := "windowMeets", fn := fun _ => fun
  | [d1, d2] => { results := [.lit (.bool true)], args := [d1, d2] }
  | _ => none }
def windowMeetsRow : OpenClaim := { program := "ytdkenokjdiamhaadoor", sum := "91b09153eaef7dbb0b28f963f622634cd2fa29ba494fe9d18781e4cfc49eae8b", func := "heliograph/heliographlaw07.WindowMeets", spec := "windowMeets", inPlace := ["slices.overlaps[heliograph/api.Span]"], unfollowed := true, recurses := true, named := ["heliograph/window.widths"], apart := false, laid := [("heliograph/window.widths", laid_heliograph_window_widths)] }
def WindowMeetsSaid : Prop := windowMeetsRow.holds Tryd.pinned (OpenSpec.ofChange windowMeetsSpec)

/-- ITS FALSE NEIGHBOUR: 'it returns false'. Refute it at one input. -/
def windowMeetsWrong : ChangeSpec := { name := "windowMeets", fn := fun _ => fun
  | [d1, d2] => { results := [.lit (.bool false)], args := [d1, d2] }
  | _ => none }
def WindowMeetsWrongFalsely : Prop := windowMeetsRow.holds Tryd.pinned (OpenSpec.ofChange windowMeetsWrong)

/-- 'heliographlaw07.WindowNil': WHATEVER THE INPUT: true; the input reads as it did. -/
def windowNilSpec : ChangeSpec := { name := "windowNil", fn := fun _ => fun
  | [d] => { results := [.lit (.bool true)], args := [d] }
  | _ => none }
def windowNilRow : OpenClaim := { program := "ytdkenokjdiamhaadoor", sum := "91b09153eaef7dbb0b28f963f622634cd2fa29ba494fe9d18781e4cfc49eae8b", func := "heliograph/heliographlaw07.WindowNil", spec := "windowNil", inPlace := ["slices.overlaps[heliograph/api.Span]"], unfollowed := true, recurses := true, named := ["heliograph/window.widths"], apart := false, laid := [("heliograph/window.widths", laid_heliograph_window_widths)] }
def WindowNilSaid : Prop := windowNilRow.holds Tryd.pinned (OpenSpec.ofChange windowNilSpec)

/-- ITS FALSE NEIGHBOUR: 'it returns false'. Refute it at one input. -/
def windowNilWrong : ChangeSpec := { name := "windowNil", fn := fun _ => fun
  | [d] => { results := [.lit (.bool false)], args := [d] }
  | _ => none }
def WindowNilWrongFalsely : Prop := windowNilRow.holds Tryd.pinned (OpenSpec.ofChange windowNilWrong)

/-- 'heliographlaw07.WindowTakes': WHATEVER THE INPUT: true; the input reads as it did. -/
def windowTakesSpec : ChangeSpec := { name := "windowTakes", fn := fun _ => fun
  | [d1, d2] => { results := [.lit (.bool true)], args := [d1, d2] }
  | _ => none }
def windowTakesRow : OpenClaim := { program := "ytdkenokjdiamhaadoor", sum := "91b09153eaef7dbb0b28f963f622634cd2fa29ba494fe9d18781e4cfc49eae8b", func := "heliograph/heliographlaw07.WindowTakes", spec := "windowTakes", inPlace := ["slices.overlaps[heliograph/api.Span]"], unfollowed := true, recurses := true, named := ["heliograph/window.widths"], apart := false, laid := [("heliograph/window.widths", laid_heliograph_window_widths)] }
def WindowTakesSaid : Prop := windowTakesRow.holds Tryd.pinned (OpenSpec.ofChange windowTakesSpec)

/-- ITS FALSE NEIGHBOUR: 'it returns false'. Refute it at one input. -/
def windowTakesWrong : ChangeSpec := { name := "windowTakes", fn := fun _ => fun
  | [d1, d2] => { results := [.lit (.bool false)], args := [d1, d2] }
  | _ => none }
def WindowTakesWrongFalsely : Prop := windowTakesRow.holds Tryd.pinned (OpenSpec.ofChange windowTakesWrong)

/- THE SECOND FORM. 'bulk': how many values and letters a reading holds, each counted each time it is reached (what is shared counts as often as it is met; a slice's spare places count too). A statement '..UptoSaid' is the law's where the arguments, and the package variables that the reading takes, are together of bulk at most 1048576: NARROWER than '..Said'. Prove '..Said' where nothing that the law and all that it calls make is longer than what came in: it says more and counts as full. Else prove '..UptoSaid'. A law counts once. -/
mutual
def uptoBulk {H : Type} : DataW H → Nat
  | .lit (.string bytes) => bytes.length + 1
  | .lit _ => 1
  | .nil => 1
  | .ptr d => uptoBulk d + 1
  | .slice elems spare => uptoBulkAll elems + uptoBulkAll spare + 1
  | .agg parts => uptoBulkAll parts + 1
  | .iface _ d => uptoBulk d + 1
  | .map entries => uptoBulkEntries entries + 1
  | .held _ => 1
def uptoBulkAll {H : Type} : List (DataW H) → Nat
  | [] => 0
  | d :: r => uptoBulk d + uptoBulkAll r
def uptoBulkEntries {H : Type} : List (Lit × DataW H) → Nat
  | [] => 0
  | x :: r => uptoBulkEntry x + uptoBulkEntries r
def uptoBulkEntry {H : Type} : Lit × DataW H → Nat
  | (.string bytes, d) => bytes.length + uptoBulk d + 1
  | (_, d) => uptoBulk d + 1
 end
def uptoSmall : (H : Type) → List (DataW H) → Bool := fun _ ds => decide (uptoBulkAll ds ≤ 1048576)
def OpenSpec.upto (s : _root_.Go.ChangeSpec) : _root_.Go.OpenSpec := { _root_.Go.OpenSpec.ofChange s with cond := some uptoSmall }

/-- 'heliographlaw07.WindowTimes', WHERE WHAT IT READS IS OF BULK AT MOST 1048576: true; the input reads as it did. -/
def windowTimesUptoRow : OpenClaim := { program := "ytdkenokjdiamhaadoor", sum := "91b09153eaef7dbb0b28f963f622634cd2fa29ba494fe9d18781e4cfc49eae8b", func := "heliograph/heliographlaw07.WindowTimes", spec := "windowTimes", inPlace := ["slices.overlaps[heliograph/api.Span]"], unfollowed := true, recurses := true, named := ["heliograph/window.widths"], apart := false, laid := [("heliograph/window.widths", laid_heliograph_window_widths)], narrowed := true }
def WindowTimesUptoSaid : Prop := windowTimesUptoRow.holds Tryd.pinned (OpenSpec.upto windowTimesSpec)

/-- 'heliographlaw07.WindowSpans', WHERE WHAT IT READS IS OF BULK AT MOST 1048576: true; the input reads as it did. -/
def windowSpansUptoRow : OpenClaim := { program := "ytdkenokjdiamhaadoor", sum := "91b09153eaef7dbb0b28f963f622634cd2fa29ba494fe9d18781e4cfc49eae8b", func := "heliograph/heliographlaw07.WindowSpans", spec := "windowSpans", inPlace := ["slices.overlaps[heliograph/api.Span]"], unfollowed := true, recurses := true, named := ["heliograph/window.widths"], apart := false, laid := [("heliograph/window.widths", laid_heliograph_window_widths)], narrowed := true }
def WindowSpansUptoSaid : Prop := windowSpansUptoRow.holds Tryd.pinned (OpenSpec.upto windowSpansSpec)

/-- 'heliographlaw07.WindowSets', WHERE WHAT IT READS IS OF BULK AT MOST 1048576: true; the input reads as it did. -/
def windowSetsUptoRow : OpenClaim := { program := "ytdkenokjdiamhaadoor", sum := "91b09153eaef7dbb0b28f963f622634cd2fa29ba494fe9d18781e4cfc49eae8b", func := "heliograph/heliographlaw07.WindowSets", spec := "windowSets", inPlace := ["slices.overlaps[heliograph/api.Span]"], unfollowed := true, recurses := true, named := ["heliograph/window.widths"], apart := false, laid := [("heliograph/window.widths", laid_heliograph_window_widths)], narrowed := true }
def WindowSetsUptoSaid : Prop := windowSetsUptoRow.holds Tryd.pinned (OpenSpec.upto windowSetsSpec)

/-- 'heliographlaw07.WindowParts', WHERE WHAT IT READS IS OF BULK AT MOST 1048576: true; the input reads as it did. -/
def windowPartsUptoRow : OpenClaim := { program := "ytdkenokjdiamhaadoor", sum := "91b09153eaef7dbb0b28f963f622634cd2fa29ba494fe9d18781e4cfc49eae8b", func := "heliograph/heliographlaw07.WindowParts", spec := "windowParts", inPlace := ["slices.overlaps[heliograph/api.Span]"], unfollowed := true, recurses := true, named := ["heliograph/window.widths"], apart := false, laid := [("heliograph/window.widths", laid_heliograph_window_widths)], narrowed := true }
def WindowPartsUptoSaid : Prop := windowPartsUptoRow.holds Tryd.pinned (OpenSpec.upto windowPartsSpec)

/-- 'heliographlaw07.WindowMeets', WHERE WHAT IT READS IS OF BULK AT MOST 1048576: true; the input reads as it did. -/
def windowMeetsUptoRow : OpenClaim := { program := "ytdkenokjdiamhaadoor", sum := "91b09153eaef7dbb0b28f963f622634cd2fa29ba494fe9d18781e4cfc49eae8b", func := "heliograph/heliographlaw07.WindowMeets", spec := "windowMeets", inPlace := ["slices.overlaps[heliograph/api.Span]"], unfollowed := true, recurses := true, named := ["heliograph/window.widths"], apart := false, laid := [("heliograph/window.widths", laid_heliograph_window_widths)], narrowed := true }
def WindowMeetsUptoSaid : Prop := windowMeetsUptoRow.holds Tryd.pinned (OpenSpec.upto windowMeetsSpec)

/-- 'heliographlaw07.WindowNil', WHERE WHAT IT READS IS OF BULK AT MOST 1048576: true; the input reads as it did. -/
def windowNilUptoRow : OpenClaim := { program := "ytdkenokjdiamhaadoor", sum := "91b09153eaef7dbb0b28f963f622634cd2fa29ba494fe9d18781e4cfc49eae8b", func := "heliograph/heliographlaw07.WindowNil", spec := "windowNil", inPlace := ["slices.overlaps[heliograph/api.Span]"], unfollowed := true, recurses := true, named := ["heliograph/window.widths"], apart := false, laid := [("heliograph/window.widths", laid_heliograph_window_widths)], narrowed := true }
def WindowNilUptoSaid : Prop := windowNilUptoRow.holds Tryd.pinned (OpenSpec.upto windowNilSpec)

/-- 'heliographlaw07.WindowTakes', WHERE WHAT IT READS IS OF BULK AT MOST 1048576: true; the input reads as it did. -/
def windowTakesUptoRow : OpenClaim := { program := "ytdkenokjdiamhaadoor", sum := "91b09153eaef7dbb0b28f963f622634cd2fa29ba494fe9d18781e4cfc49eae8b", func := "heliograph/heliographlaw07.WindowTakes", spec := "windowTakes", inPlace := ["slices.overlaps[heliograph/api.Span]"], unfollowed := true, recurses := true, named := ["heliograph/window.widths"], apart := false, laid := [("heliograph/window.widths", laid_heliograph_window_widths)], narrowed := true }
def WindowTakesUptoSaid : Prop := windowTakesUptoRow.holds Tryd.pinned (OpenSpec.upto windowTakesSpec)

end Rows
end Go.Proofs.YtdkenokjdiamhaaDoor
