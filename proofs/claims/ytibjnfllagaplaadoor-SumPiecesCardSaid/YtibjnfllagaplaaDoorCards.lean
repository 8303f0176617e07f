/-
  DERIVED. GIVEN WITH THE SEED: THE CARDS: each row of YtibjnfllagaplaaDoorRows.lean that lists a variable, with what it lists TIED to the program's text (the seventh form; the later family's looks); each row that meets fmt, with fmt's text TOLD by the authors' own Lean function (tested against real Go, not proved from fmt's source: count such statements apart). THE CARD IS WHAT COUNTS. Prove the row's statement (the work); the ties are given (YtibjnfllagaplaaDoorTie.lean); close each card by the builder's one call (the guide's Derived/Test/ToyasCard.lean, 'card_holds'). Laid BY PROGRAM, IN A SANDBOX (cutbox-door.mjs). By AI agents, Wed Nov 11 2026. No macro, syntax, notation, axiom, sorry.
-/
import Derived.Test.YtibjnfllagaplaaDoorRows
import GoSem.ClaimSeven
namespace Go.Proofs.YtibjnfllagaplaaDoor
namespace Rows

/-- THE TIED CARD OF 'heliographlaw01.SumValues'. -/
def sumValuesCard : Claim7 := { stood := { row := sumValuesRow, standIns := [], harness := (true, "72d4941412464c8d90576e0129af506061f295242ab1dbe2720e91c654d6a8be"), looks := false }, kinds := [], alts := [], laidByText := true, laidKinds := [.data], laidTests := true, laidLooks := .later }
def SumValuesCardSaid : Prop := Claim7.holds Tryd.pinned (.plain (OpenSpec.ofChange sumValuesSpec)) sumValuesCard

/-- THE TIED CARD OF 'heliographlaw01.SumSeals'. -/
def sumSealsCard : Claim7 := { stood := { row := sumSealsRow, standIns := [], harness := (true, "72d4941412464c8d90576e0129af506061f295242ab1dbe2720e91c654d6a8be"), looks := false }, kinds := [], alts := [], laidByText := true, laidKinds := [.data], laidTests := true, laidLooks := .later }
def SumSealsCardSaid : Prop := Claim7.holds Tryd.pinned (.plain (OpenSpec.ofChange sumSealsSpec)) sumSealsCard

/-- THE TIED CARD OF 'heliographlaw01.SumPieces'. -/
def sumPiecesCard : Claim7 := { stood := { row := sumPiecesRow, standIns := [], harness := (true, "72d4941412464c8d90576e0129af506061f295242ab1dbe2720e91c654d6a8be"), looks := false }, kinds := [], alts := [], laidByText := true, laidKinds := [.data], laidTests := true, laidLooks := .later }
def SumPiecesCardSaid : Prop := Claim7.holds Tryd.pinned (.plain (OpenSpec.ofChange sumPiecesSpec)) sumPiecesCard

/-- THE TIED CARD OF 'heliographlaw01.SumTurned'. -/
def sumTurnedCard : Claim7 := { stood := { row := sumTurnedRow, standIns := [], harness := (true, "72d4941412464c8d90576e0129af506061f295242ab1dbe2720e91c654d6a8be"), looks := false }, kinds := [], alts := [], laidByText := true, laidKinds := [.data], laidTests := true, laidLooks := .later }
def SumTurnedCardSaid : Prop := Claim7.holds Tryd.pinned (.plain (OpenSpec.ofChange sumTurnedSpec)) sumTurnedCard

/-- THE TIED CARD OF 'heliographlaw01.SumNil'. -/
def sumNilCard : Claim7 := { stood := { row := sumNilRow, standIns := [], harness := (true, "72d4941412464c8d90576e0129af506061f295242ab1dbe2720e91c654d6a8be"), looks := false }, kinds := [], alts := [], laidByText := true, laidKinds := [.data], laidTests := true, laidLooks := .later }
def SumNilCardSaid : Prop := Claim7.holds Tryd.pinned (.plain (OpenSpec.ofChange sumNilSpec)) sumNilCard

/-- THE TIED CARD OF 'heliographlaw01.SumAlone'. -/
def sumAloneCard : Claim7 := { stood := { row := sumAloneRow, standIns := [], harness := (true, "72d4941412464c8d90576e0129af506061f295242ab1dbe2720e91c654d6a8be"), looks := false }, kinds := [], alts := [], laidByText := true, laidKinds := [.data], laidTests := true, laidLooks := .later }
def SumAloneCardSaid : Prop := Claim7.holds Tryd.pinned (.plain (OpenSpec.ofChange sumAloneSpec)) sumAloneCard

/-- THE SECOND FORM's CARD OF 'heliographlaw01.SumValues'. -/
def sumValuesUptoCard : Claim7 := { stood := { row := sumValuesUptoRow, standIns := [], harness := (true, "72d4941412464c8d90576e0129af506061f295242ab1dbe2720e91c654d6a8be"), looks := false }, kinds := [], alts := [], laidByText := true, laidKinds := [.data], laidTests := true, laidLooks := .later }
def SumValuesUptoCardSaid : Prop := Claim7.holds Tryd.pinned (.plain (OpenSpec.upto sumValuesSpec)) sumValuesUptoCard

/-- THE SECOND FORM's CARD OF 'heliographlaw01.SumSeals'. -/
def sumSealsUptoCard : Claim7 := { stood := { row := sumSealsUptoRow, standIns := [], harness := (true, "72d4941412464c8d90576e0129af506061f295242ab1dbe2720e91c654d6a8be"), looks := false }, kinds := [], alts := [], laidByText := true, laidKinds := [.data], laidTests := true, laidLooks := .later }
def SumSealsUptoCardSaid : Prop := Claim7.holds Tryd.pinned (.plain (OpenSpec.upto sumSealsSpec)) sumSealsUptoCard

/-- THE SECOND FORM's CARD OF 'heliographlaw01.SumPieces'. -/
def sumPiecesUptoCard : Claim7 := { stood := { row := sumPiecesUptoRow, standIns := [], harness := (true, "72d4941412464c8d90576e0129af506061f295242ab1dbe2720e91c654d6a8be"), looks := false }, kinds := [], alts := [], laidByText := true, laidKinds := [.data], laidTests := true, laidLooks := .later }
def SumPiecesUptoCardSaid : Prop := Claim7.holds Tryd.pinned (.plain (OpenSpec.upto sumPiecesSpec)) sumPiecesUptoCard

/-- THE SECOND FORM's CARD OF 'heliographlaw01.SumTurned'. -/
def sumTurnedUptoCard : Claim7 := { stood := { row := sumTurnedUptoRow, standIns := [], harness := (true, "72d4941412464c8d90576e0129af506061f295242ab1dbe2720e91c654d6a8be"), looks := false }, kinds := [], alts := [], laidByText := true, laidKinds := [.data], laidTests := true, laidLooks := .later }
def SumTurnedUptoCardSaid : Prop := Claim7.holds Tryd.pinned (.plain (OpenSpec.upto sumTurnedSpec)) sumTurnedUptoCard

/-- THE SECOND FORM's CARD OF 'heliographlaw01.SumNil'. -/
def sumNilUptoCard : Claim7 := { stood := { row := sumNilUptoRow, standIns := [], harness := (true, "72d4941412464c8d90576e0129af506061f295242ab1dbe2720e91c654d6a8be"), looks := false }, kinds := [], alts := [], laidByText := true, laidKinds := [.data], laidTests := true, laidLooks := .later }
def SumNilUptoCardSaid : Prop := Claim7.holds Tryd.pinned (.plain (OpenSpec.upto sumNilSpec)) sumNilUptoCard

/-- THE SECOND FORM's CARD OF 'heliographlaw01.SumAlone'. -/
def sumAloneUptoCard : Claim7 := { stood := { row := sumAloneUptoRow, standIns := [], harness := (true, "72d4941412464c8d90576e0129af506061f295242ab1dbe2720e91c654d6a8be"), looks := false }, kinds := [], alts := [], laidByText := true, laidKinds := [.data], laidTests := true, laidLooks := .later }
def SumAloneUptoCardSaid : Prop := Claim7.holds Tryd.pinned (.plain (OpenSpec.upto sumAloneSpec)) sumAloneUptoCard
end Rows
end Go.Proofs.YtibjnfllagaplaaDoor
