/-
  DERIVED. GIVEN WITH THE SEED: THE CARDS: each row of YtdklaeppcjopoaaGreatDoorRows.lean that lists a variable, with what it lists TIED to the program's text (the seventh form; the later family's looks); each row that meets fmt, with fmt's text TOLD by the authors' own Lean function (tested against real Go, not proved from fmt's source: count such statements apart). THE CARD IS WHAT COUNTS. Prove the row's statement (the work); the ties are given (YtdklaeppcjopoaaGreatDoorTie.lean); close each card by the builder's one call (the guide's Derived/Test/ToyasCard.lean, 'card_holds'). Laid BY PROGRAM, IN A SANDBOX (cutbox-door.mjs). By AI agents, Wed Nov 11 2026. No macro, syntax, notation, axiom, sorry.
-/
import Derived.Test.YtdklaeppcjopoaaGreatDoorRows
import GoSem.ClaimSeven
namespace Go.Proofs.YtdklaeppcjopoaaGreatDoor
namespace Rows

/-- THE TIED CARD OF 'gantrylaw5.RunWords'. -/
def runWordsCard : Claim7 := { stood := { row := runWordsRow, standIns := [], harness := (true, "ed7e331ac9d28ceb29585c95a27371ce563d264811dbbcf79ad6c5de92cdb1fb"), looks := true }, kinds := [], alts := [], laidByText := true, laidKinds := [.data, .data], laidTests := true, laidLooks := .later }
def RunWordsCardSaid : Prop := Claim7.holds Tryz.pinned (.plain (OpenSpec.ofChange runWordsSpec)) runWordsCard

/-- THE TIED CARD OF 'gantrylaw5.RunFlags'. -/
def runFlagsCard : Claim7 := { stood := { row := runFlagsRow, standIns := [], harness := (true, "ed7e331ac9d28ceb29585c95a27371ce563d264811dbbcf79ad6c5de92cdb1fb"), looks := true }, kinds := [], alts := [], laidByText := true, laidKinds := [.data, .data], laidTests := true, laidLooks := .later }
def RunFlagsCardSaid : Prop := Claim7.holds Tryz.pinned (.plain (OpenSpec.ofChange runFlagsSpec)) runFlagsCard

/-- THE TIED CARD OF 'gantrylaw5.RunMoves'. -/
def runMovesCard : Claim7 := { stood := { row := runMovesRow, standIns := [], harness := (true, "ed7e331ac9d28ceb29585c95a27371ce563d264811dbbcf79ad6c5de92cdb1fb"), looks := true }, kinds := [], alts := [], laidByText := true, laidKinds := [.data, .data], laidTests := true, laidLooks := .later }
def RunMovesCardSaid : Prop := Claim7.holds Tryz.pinned (.plain (OpenSpec.ofChange runMovesSpec)) runMovesCard

/-- THE SECOND FORM's CARD OF 'gantrylaw5.RunWords'. -/
def runWordsUptoCard : Claim7 := { stood := { row := runWordsUptoRow, standIns := [], harness := (true, "ed7e331ac9d28ceb29585c95a27371ce563d264811dbbcf79ad6c5de92cdb1fb"), looks := true }, kinds := [], alts := [], laidByText := true, laidKinds := [.data, .data], laidTests := true, laidLooks := .later }
def RunWordsUptoCardSaid : Prop := Claim7.holds Tryz.pinned (.plain (OpenSpec.upto runWordsSpec)) runWordsUptoCard

/-- THE SECOND FORM's CARD OF 'gantrylaw5.RunFlags'. -/
def runFlagsUptoCard : Claim7 := { stood := { row := runFlagsUptoRow, standIns := [], harness := (true, "ed7e331ac9d28ceb29585c95a27371ce563d264811dbbcf79ad6c5de92cdb1fb"), looks := true }, kinds := [], alts := [], laidByText := true, laidKinds := [.data, .data], laidTests := true, laidLooks := .later }
def RunFlagsUptoCardSaid : Prop := Claim7.holds Tryz.pinned (.plain (OpenSpec.upto runFlagsSpec)) runFlagsUptoCard

/-- THE SECOND FORM's CARD OF 'gantrylaw5.RunMoves'. -/
def runMovesUptoCard : Claim7 := { stood := { row := runMovesUptoRow, standIns := [], harness := (true, "ed7e331ac9d28ceb29585c95a27371ce563d264811dbbcf79ad6c5de92cdb1fb"), looks := true }, kinds := [], alts := [], laidByText := true, laidKinds := [.data, .data], laidTests := true, laidLooks := .later }
def RunMovesUptoCardSaid : Prop := Claim7.holds Tryz.pinned (.plain (OpenSpec.upto runMovesSpec)) runMovesUptoCard
end Rows
end Go.Proofs.YtdklaeppcjopoaaGreatDoor
