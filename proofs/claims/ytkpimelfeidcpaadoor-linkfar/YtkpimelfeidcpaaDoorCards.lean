/-
  DERIVED. GIVEN WITH THE SEED: THE CARDS: each row of YtkpimelfeidcpaaDoorRows.lean that lists a variable, with what it lists TIED to the program's text (the seventh form; the later family's looks); each row that meets fmt, with fmt's text TOLD by the authors' own Lean function (tested against real Go, not proved from fmt's source: count such statements apart). THE CARD IS WHAT COUNTS. Prove the row's statement (the work); the ties are given (YtkpimelfeidcpaaDoorTie.lean); close each card by the builder's one call (the guide's Derived/Test/ToyasCard.lean, 'card_holds'). Laid BY PROGRAM, IN A SANDBOX (cutbox-door.mjs). By AI agents, Wed Nov 11 2026. No macro, syntax, notation, axiom, sorry.
-/
import Derived.Test.YtkpimelfeidcpaaDoorRows
import GoSem.ClaimSeven
namespace Go.Proofs.YtkpimelfeidcpaaDoor
namespace Rows

/-- THE TIED CARD OF 'gantrylaw6.LinkFar'. -/
def linkFarCard : Claim7 := { stood := { row := linkFarRow, standIns := [], harness := (true, "9bcbc278f08e6a241eab67ba168672b2d6b48447c0a8bf4f2b6f9d25c9381611"), looks := true }, kinds := [], alts := [], laidByText := true, laidKinds := [.data, .data], laidTests := true, laidLooks := .later }
def LinkFarCardSaid : Prop := Claim7.holds Tryd.pinned (.plain (OpenSpec.ofChange linkFarSpec)) linkFarCard

/-- THE SECOND FORM's CARD OF 'gantrylaw6.LinkFar'. -/
def linkFarUptoCard : Claim7 := { stood := { row := linkFarUptoRow, standIns := [], harness := (true, "9bcbc278f08e6a241eab67ba168672b2d6b48447c0a8bf4f2b6f9d25c9381611"), looks := true }, kinds := [], alts := [], laidByText := true, laidKinds := [.data, .data], laidTests := true, laidLooks := .later }
def LinkFarUptoCardSaid : Prop := Claim7.holds Tryd.pinned (.plain (OpenSpec.upto linkFarSpec)) linkFarUptoCard
end Rows
end Go.Proofs.YtkpimelfeidcpaaDoor
