/-
  DERIVED. GIVEN WITH THE SEED: THE CARDS: each row of YtkiockffejlnhaaGreatDoorRows.lean that lists a variable, with what it lists TIED to the program's text (the seventh form; the later family's looks); each row that meets fmt, with fmt's text TOLD by the authors' own Lean function (tested against real Go, not proved from fmt's source: count such statements apart). THE CARD IS WHAT COUNTS. Prove the row's statement (the work); the ties are given (YtkiockffejlnhaaGreatDoorTie.lean); close each card by the builder's one call (the guide's Derived/Test/ToyasCard.lean, 'card_holds'). Laid BY PROGRAM, IN A SANDBOX (cutbox-door.mjs). By AI agents, Wed Nov 11 2026. No macro, syntax, notation, axiom, sorry.
-/
import Derived.Test.YtkiockffejlnhaaGreatDoorRows
import GoSem.ClaimSeven
namespace Go.Proofs.YtkiockffejlnhaaGreatDoor
namespace Rows

/-- THE TIED CARD OF 'gantrylaw6.LinkExact'. -/
def linkExactCard : Claim7 := { stood := { row := linkExactRow, standIns := [], harness := (true, "c9351ff914040df7dfd8ba2f3a614a84ae2c82b124435953f5801a4cffd80f1f"), looks := true }, kinds := [], alts := [], laidByText := true, laidKinds := [.data, .data], laidTests := true, laidLooks := .later }
def LinkExactCardSaid : Prop := Claim7.holds Tryz.pinned (.plain (OpenSpec.ofChange linkExactSpec)) linkExactCard

/-- THE TIED CARD OF 'gantrylaw6.LinkDecodes'. -/
def linkDecodesCard : Claim7 := { stood := { row := linkDecodesRow, standIns := [], harness := (true, "c9351ff914040df7dfd8ba2f3a614a84ae2c82b124435953f5801a4cffd80f1f"), looks := true }, kinds := [], alts := [], laidByText := true, laidKinds := [.data, .data], laidTests := true, laidLooks := .later }
def LinkDecodesCardSaid : Prop := Claim7.holds Tryz.pinned (.plain (OpenSpec.ofChange linkDecodesSpec)) linkDecodesCard

/-- THE SECOND FORM's CARD OF 'gantrylaw6.LinkExact'. -/
def linkExactUptoCard : Claim7 := { stood := { row := linkExactUptoRow, standIns := [], harness := (true, "c9351ff914040df7dfd8ba2f3a614a84ae2c82b124435953f5801a4cffd80f1f"), looks := true }, kinds := [], alts := [], laidByText := true, laidKinds := [.data, .data], laidTests := true, laidLooks := .later }
def LinkExactUptoCardSaid : Prop := Claim7.holds Tryz.pinned (.plain (OpenSpec.upto linkExactSpec)) linkExactUptoCard

/-- THE SECOND FORM's CARD OF 'gantrylaw6.LinkDecodes'. -/
def linkDecodesUptoCard : Claim7 := { stood := { row := linkDecodesUptoRow, standIns := [], harness := (true, "c9351ff914040df7dfd8ba2f3a614a84ae2c82b124435953f5801a4cffd80f1f"), looks := true }, kinds := [], alts := [], laidByText := true, laidKinds := [.data, .data], laidTests := true, laidLooks := .later }
def LinkDecodesUptoCardSaid : Prop := Claim7.holds Tryz.pinned (.plain (OpenSpec.upto linkDecodesSpec)) linkDecodesUptoCard
end Rows
end Go.Proofs.YtkiockffejlnhaaGreatDoor
