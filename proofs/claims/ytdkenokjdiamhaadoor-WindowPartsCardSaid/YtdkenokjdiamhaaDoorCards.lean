/-
  DERIVED. GIVEN WITH THE SEED: THE CARDS: each row of YtdkenokjdiamhaaDoorRows.lean that lists a variable, with what it lists TIED to the program's text (the seventh form; the later family's looks); each row that meets fmt, with fmt's text TOLD by the authors' own Lean function (tested against real Go, not proved from fmt's source: count such statements apart). THE CARD IS WHAT COUNTS. Prove the row's statement (the work); the ties are given (YtdkenokjdiamhaaDoorTie.lean); close each card by the builder's one call (the guide's Derived/Test/ToyasCard.lean, 'card_holds'). Laid BY PROGRAM, IN A SANDBOX (cutbox-door.mjs). By AI agents, Wed Nov 11 2026. No macro, syntax, notation, axiom, sorry.
-/
import Derived.Test.YtdkenokjdiamhaaDoorRows
import GoSem.ClaimSeven
namespace Go.Proofs.YtdkenokjdiamhaaDoor
namespace Rows

/-- THE TIED CARD OF 'heliographlaw07.WindowTimes'. -/
def windowTimesCard : Claim7 := { stood := { row := windowTimesRow, standIns := [], harness := (true, "9d1afd3d97d498136bcdb8a143cf430712be55c06e1f101b0350c1263fbfb988"), looks := false }, kinds := [], alts := [], laidByText := true, laidKinds := [.data], laidTests := true, laidLooks := .later }
def WindowTimesCardSaid : Prop := Claim7.holds Tryd.pinned (.plain (OpenSpec.ofChange windowTimesSpec)) windowTimesCard

/-- THE TIED CARD OF 'heliographlaw07.WindowSpans'. -/
def windowSpansCard : Claim7 := { stood := { row := windowSpansRow, standIns := [], harness := (true, "9d1afd3d97d498136bcdb8a143cf430712be55c06e1f101b0350c1263fbfb988"), looks := false }, kinds := [], alts := [], laidByText := true, laidKinds := [.data], laidTests := true, laidLooks := .later }
def WindowSpansCardSaid : Prop := Claim7.holds Tryd.pinned (.plain (OpenSpec.ofChange windowSpansSpec)) windowSpansCard

/-- THE TIED CARD OF 'heliographlaw07.WindowSets'. -/
def windowSetsCard : Claim7 := { stood := { row := windowSetsRow, standIns := [], harness := (true, "9d1afd3d97d498136bcdb8a143cf430712be55c06e1f101b0350c1263fbfb988"), looks := false }, kinds := [], alts := [], laidByText := true, laidKinds := [.data], laidTests := true, laidLooks := .later }
def WindowSetsCardSaid : Prop := Claim7.holds Tryd.pinned (.plain (OpenSpec.ofChange windowSetsSpec)) windowSetsCard

/-- THE TIED CARD OF 'heliographlaw07.WindowParts'. -/
def windowPartsCard : Claim7 := { stood := { row := windowPartsRow, standIns := [], harness := (true, "9d1afd3d97d498136bcdb8a143cf430712be55c06e1f101b0350c1263fbfb988"), looks := false }, kinds := [], alts := [], laidByText := true, laidKinds := [.data], laidTests := true, laidLooks := .later }
def WindowPartsCardSaid : Prop := Claim7.holds Tryd.pinned (.plain (OpenSpec.ofChange windowPartsSpec)) windowPartsCard

/-- THE TIED CARD OF 'heliographlaw07.WindowMeets'. -/
def windowMeetsCard : Claim7 := { stood := { row := windowMeetsRow, standIns := [], harness := (true, "9d1afd3d97d498136bcdb8a143cf430712be55c06e1f101b0350c1263fbfb988"), looks := false }, kinds := [], alts := [], laidByText := true, laidKinds := [.data], laidTests := true, laidLooks := .later }
def WindowMeetsCardSaid : Prop := Claim7.holds Tryd.pinned (.plain (OpenSpec.ofChange windowMeetsSpec)) windowMeetsCard

/-- THE TIED CARD OF 'heliographlaw07.WindowNil'. -/
def windowNilCard : Claim7 := { stood := { row := windowNilRow, standIns := [], harness := (true, "9d1afd3d97d498136bcdb8a143cf430712be55c06e1f101b0350c1263fbfb988"), looks := false }, kinds := [], alts := [], laidByText := true, laidKinds := [.data], laidTests := true, laidLooks := .later }
def WindowNilCardSaid : Prop := Claim7.holds Tryd.pinned (.plain (OpenSpec.ofChange windowNilSpec)) windowNilCard

/-- THE TIED CARD OF 'heliographlaw07.WindowTakes'. -/
def windowTakesCard : Claim7 := { stood := { row := windowTakesRow, standIns := [], harness := (true, "9d1afd3d97d498136bcdb8a143cf430712be55c06e1f101b0350c1263fbfb988"), looks := false }, kinds := [], alts := [], laidByText := true, laidKinds := [.data], laidTests := true, laidLooks := .later }
def WindowTakesCardSaid : Prop := Claim7.holds Tryd.pinned (.plain (OpenSpec.ofChange windowTakesSpec)) windowTakesCard

/-- THE SECOND FORM's CARD OF 'heliographlaw07.WindowTimes'. -/
def windowTimesUptoCard : Claim7 := { stood := { row := windowTimesUptoRow, standIns := [], harness := (true, "9d1afd3d97d498136bcdb8a143cf430712be55c06e1f101b0350c1263fbfb988"), looks := false }, kinds := [], alts := [], laidByText := true, laidKinds := [.data], laidTests := true, laidLooks := .later }
def WindowTimesUptoCardSaid : Prop := Claim7.holds Tryd.pinned (.plain (OpenSpec.upto windowTimesSpec)) windowTimesUptoCard

/-- THE SECOND FORM's CARD OF 'heliographlaw07.WindowSpans'. -/
def windowSpansUptoCard : Claim7 := { stood := { row := windowSpansUptoRow, standIns := [], harness := (true, "9d1afd3d97d498136bcdb8a143cf430712be55c06e1f101b0350c1263fbfb988"), looks := false }, kinds := [], alts := [], laidByText := true, laidKinds := [.data], laidTests := true, laidLooks := .later }
def WindowSpansUptoCardSaid : Prop := Claim7.holds Tryd.pinned (.plain (OpenSpec.upto windowSpansSpec)) windowSpansUptoCard

/-- THE SECOND FORM's CARD OF 'heliographlaw07.WindowSets'. -/
def windowSetsUptoCard : Claim7 := { stood := { row := windowSetsUptoRow, standIns := [], harness := (true, "9d1afd3d97d498136bcdb8a143cf430712be55c06e1f101b0350c1263fbfb988"), looks := false }, kinds := [], alts := [], laidByText := true, laidKinds := [.data], laidTests := true, laidLooks := .later }
def WindowSetsUptoCardSaid : Prop := Claim7.holds Tryd.pinned (.plain (OpenSpec.upto windowSetsSpec)) windowSetsUptoCard

/-- THE SECOND FORM's CARD OF 'heliographlaw07.WindowParts'. -/
def windowPartsUptoCard : Claim7 := { stood := { row := windowPartsUptoRow, standIns := [], harness := (true, "9d1afd3d97d498136bcdb8a143cf430712be55c06e1f101b0350c1263fbfb988"), looks := false }, kinds := [], alts := [], laidByText := true, laidKinds := [.data], laidTests := true, laidLooks := .later }
def WindowPartsUptoCardSaid : Prop := Claim7.holds Tryd.pinned (.plain (OpenSpec.upto windowPartsSpec)) windowPartsUptoCard

/-- THE SECOND FORM's CARD OF 'heliographlaw07.WindowMeets'. -/
def windowMeetsUptoCard : Claim7 := { stood := { row := windowMeetsUptoRow, standIns := [], harness := (true, "9d1afd3d97d498136bcdb8a143cf430712be55c06e1f101b0350c1263fbfb988"), looks := false }, kinds := [], alts := [], laidByText := true, laidKinds := [.data], laidTests := true, laidLooks := .later }
def WindowMeetsUptoCardSaid : Prop := Claim7.holds Tryd.pinned (.plain (OpenSpec.upto windowMeetsSpec)) windowMeetsUptoCard

/-- THE SECOND FORM's CARD OF 'heliographlaw07.WindowNil'. -/
def windowNilUptoCard : Claim7 := { stood := { row := windowNilUptoRow, standIns := [], harness := (true, "9d1afd3d97d498136bcdb8a143cf430712be55c06e1f101b0350c1263fbfb988"), looks := false }, kinds := [], alts := [], laidByText := true, laidKinds := [.data], laidTests := true, laidLooks := .later }
def WindowNilUptoCardSaid : Prop := Claim7.holds Tryd.pinned (.plain (OpenSpec.upto windowNilSpec)) windowNilUptoCard

/-- THE SECOND FORM's CARD OF 'heliographlaw07.WindowTakes'. -/
def windowTakesUptoCard : Claim7 := { stood := { row := windowTakesUptoRow, standIns := [], harness := (true, "9d1afd3d97d498136bcdb8a143cf430712be55c06e1f101b0350c1263fbfb988"), looks := false }, kinds := [], alts := [], laidByText := true, laidKinds := [.data], laidTests := true, laidLooks := .later }
def WindowTakesUptoCardSaid : Prop := Claim7.holds Tryd.pinned (.plain (OpenSpec.upto windowTakesSpec)) windowTakesUptoCard
end Rows
end Go.Proofs.YtdkenokjdiamhaaDoor
