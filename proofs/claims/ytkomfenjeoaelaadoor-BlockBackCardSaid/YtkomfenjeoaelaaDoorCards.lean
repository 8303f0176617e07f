/-
  DERIVED. GIVEN WITH THE SEED: THE CARDS: each row of YtkomfenjeoaelaaDoorRows.lean that lists a variable, with what it lists TIED to the program's text (the seventh form; the later family's looks); each row that meets fmt, with fmt's text TOLD by the authors' own Lean function (tested against real Go, not proved from fmt's source: count such statements apart). THE CARD IS WHAT COUNTS. Prove the row's statement (the work); the ties are given (YtkomfenjeoaelaaDoorTie.lean); close each card by the builder's one call (the guide's Derived/Test/ToyasCard.lean, 'card_holds'). Laid BY PROGRAM, IN A SANDBOX (cutbox-door.mjs). By AI agents, Wed Nov 11 2026. No macro, syntax, notation, axiom, sorry.
-/
import Derived.Test.YtkomfenjeoaelaaDoorRows
import GoSem.ClaimSeven
namespace Go.Proofs.YtkomfenjeoaelaaDoor
namespace Rows

/-- THE TIED CARD OF 'heliographlaw12.BlockSorts'. -/
def blockSortsCard : Claim7 := { stood := { row := blockSortsRow, standIns := [], harness := (true, "3b322355b720b15c7907f1ebb83239005a5d3a7ea73ec550832d0a41f810a724"), looks := false }, kinds := [], alts := [], laidByText := true, laidKinds := [.data], laidTests := true, laidLooks := .later }
def BlockSortsCardSaid : Prop := Claim7.holds Tryd.pinned (.plain (OpenSpec.ofChange blockSortsSpec)) blockSortsCard

/-- THE TIED CARD OF 'heliographlaw12.BlockLooks'. -/
def blockLooksCard : Claim7 := { stood := { row := blockLooksRow, standIns := [], harness := (true, "3b322355b720b15c7907f1ebb83239005a5d3a7ea73ec550832d0a41f810a724"), looks := false }, kinds := [], alts := [], laidByText := true, laidKinds := [.data], laidTests := true, laidLooks := .later }
def BlockLooksCardSaid : Prop := Claim7.holds Tryd.pinned (.plain (OpenSpec.ofChange blockLooksSpec)) blockLooksCard

/-- THE TIED CARD OF 'heliographlaw12.BlockBuilds'. -/
def blockBuildsCard : Claim7 := { stood := { row := blockBuildsRow, standIns := [], harness := (true, "3b322355b720b15c7907f1ebb83239005a5d3a7ea73ec550832d0a41f810a724"), looks := false }, kinds := [], alts := [], laidByText := true, laidKinds := [.data], laidTests := true, laidLooks := .later }
def BlockBuildsCardSaid : Prop := Claim7.holds Tryd.pinned (.plain (OpenSpec.ofChange blockBuildsSpec)) blockBuildsCard

/-- THE TIED CARD OF 'heliographlaw12.BlockBack'. -/
def blockBackCard : Claim7 := { stood := { row := blockBackRow, standIns := [], harness := (true, "3b322355b720b15c7907f1ebb83239005a5d3a7ea73ec550832d0a41f810a724"), looks := false }, kinds := [], alts := [], laidByText := true, laidKinds := [.data], laidTests := true, laidLooks := .later }
def BlockBackCardSaid : Prop := Claim7.holds Tryd.pinned (.plain (OpenSpec.ofChange blockBackSpec)) blockBackCard

/-- THE TIED CARD OF 'heliographlaw12.BlockLater'. -/
def blockLaterCard : Claim7 := { stood := { row := blockLaterRow, standIns := [], harness := (true, "3b322355b720b15c7907f1ebb83239005a5d3a7ea73ec550832d0a41f810a724"), looks := false }, kinds := [], alts := [], laidByText := true, laidKinds := [.data], laidTests := true, laidLooks := .later }
def BlockLaterCardSaid : Prop := Claim7.holds Tryd.pinned (.plain (OpenSpec.ofChange blockLaterSpec)) blockLaterCard

/-- THE TIED CARD OF 'heliographlaw12.BlockMany'. -/
def blockManyCard : Claim7 := { stood := { row := blockManyRow, standIns := [], harness := (true, "3b322355b720b15c7907f1ebb83239005a5d3a7ea73ec550832d0a41f810a724"), looks := false }, kinds := [], alts := [], laidByText := true, laidKinds := [.data], laidTests := true, laidLooks := .later }
def BlockManyCardSaid : Prop := Claim7.holds Tryd.pinned (.plain (OpenSpec.ofChange blockManySpec)) blockManyCard

/-- THE TIED CARD OF 'heliographlaw12.BlockRanges'. -/
def blockRangesCard : Claim7 := { stood := { row := blockRangesRow, standIns := [], harness := (true, "3b322355b720b15c7907f1ebb83239005a5d3a7ea73ec550832d0a41f810a724"), looks := false }, kinds := [], alts := [], laidByText := true, laidKinds := [.data], laidTests := true, laidLooks := .later }
def BlockRangesCardSaid : Prop := Claim7.holds Tryd.pinned (.plain (OpenSpec.ofChange blockRangesSpec)) blockRangesCard

/-- THE SECOND FORM's CARD OF 'heliographlaw12.BlockSorts'. -/
def blockSortsUptoCard : Claim7 := { stood := { row := blockSortsUptoRow, standIns := [], harness := (true, "3b322355b720b15c7907f1ebb83239005a5d3a7ea73ec550832d0a41f810a724"), looks := false }, kinds := [], alts := [], laidByText := true, laidKinds := [.data], laidTests := true, laidLooks := .later }
def BlockSortsUptoCardSaid : Prop := Claim7.holds Tryd.pinned (.plain (OpenSpec.upto blockSortsSpec)) blockSortsUptoCard

/-- THE SECOND FORM's CARD OF 'heliographlaw12.BlockLooks'. -/
def blockLooksUptoCard : Claim7 := { stood := { row := blockLooksUptoRow, standIns := [], harness := (true, "3b322355b720b15c7907f1ebb83239005a5d3a7ea73ec550832d0a41f810a724"), looks := false }, kinds := [], alts := [], laidByText := true, laidKinds := [.data], laidTests := true, laidLooks := .later }
def BlockLooksUptoCardSaid : Prop := Claim7.holds Tryd.pinned (.plain (OpenSpec.upto blockLooksSpec)) blockLooksUptoCard

/-- THE SECOND FORM's CARD OF 'heliographlaw12.BlockBuilds'. -/
def blockBuildsUptoCard : Claim7 := { stood := { row := blockBuildsUptoRow, standIns := [], harness := (true, "3b322355b720b15c7907f1ebb83239005a5d3a7ea73ec550832d0a41f810a724"), looks := false }, kinds := [], alts := [], laidByText := true, laidKinds := [.data], laidTests := true, laidLooks := .later }
def BlockBuildsUptoCardSaid : Prop := Claim7.holds Tryd.pinned (.plain (OpenSpec.upto blockBuildsSpec)) blockBuildsUptoCard

/-- THE SECOND FORM's CARD OF 'heliographlaw12.BlockBack'. -/
def blockBackUptoCard : Claim7 := { stood := { row := blockBackUptoRow, standIns := [], harness := (true, "3b322355b720b15c7907f1ebb83239005a5d3a7ea73ec550832d0a41f810a724"), looks := false }, kinds := [], alts := [], laidByText := true, laidKinds := [.data], laidTests := true, laidLooks := .later }
def BlockBackUptoCardSaid : Prop := Claim7.holds Tryd.pinned (.plain (OpenSpec.upto blockBackSpec)) blockBackUptoCard

/-- THE SECOND FORM's CARD OF 'heliographlaw12.BlockLater'. -/
def blockLaterUptoCard : Claim7 := { stood := { row := blockLaterUptoRow, standIns := [], harness := (true, "3b322355b720b15c7907f1ebb83239005a5d3a7ea73ec550832d0a41f810a724"), looks := false }, kinds := [], alts := [], laidByText := true, laidKinds := [.data], laidTests := true, laidLooks := .later }
def BlockLaterUptoCardSaid : Prop := Claim7.holds Tryd.pinned (.plain (OpenSpec.upto blockLaterSpec)) blockLaterUptoCard

/-- THE SECOND FORM's CARD OF 'heliographlaw12.BlockMany'. -/
def blockManyUptoCard : Claim7 := { stood := { row := blockManyUptoRow, standIns := [], harness := (true, "3b322355b720b15c7907f1ebb83239005a5d3a7ea73ec550832d0a41f810a724"), looks := false }, kinds := [], alts := [], laidByText := true, laidKinds := [.data], laidTests := true, laidLooks := .later }
def BlockManyUptoCardSaid : Prop := Claim7.holds Tryd.pinned (.plain (OpenSpec.upto blockManySpec)) blockManyUptoCard

/-- THE SECOND FORM's CARD OF 'heliographlaw12.BlockRanges'. -/
def blockRangesUptoCard : Claim7 := { stood := { row := blockRangesUptoRow, standIns := [], harness := (true, "3b322355b720b15c7907f1ebb83239005a5d3a7ea73ec550832d0a41f810a724"), looks := false }, kinds := [], alts := [], laidByText := true, laidKinds := [.data], laidTests := true, laidLooks := .later }
def BlockRangesUptoCardSaid : Prop := Claim7.holds Tryd.pinned (.plain (OpenSpec.upto blockRangesSpec)) blockRangesUptoCard
end Rows
end Go.Proofs.YtkomfenjeoaelaaDoor
