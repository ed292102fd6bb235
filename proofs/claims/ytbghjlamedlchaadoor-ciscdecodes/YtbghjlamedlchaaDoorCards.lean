/-
  DERIVED. GIVEN WITH THE SEED: THE CARDS: each row of YtbghjlamedlchaaDoorRows.lean that lists a variable, with what it lists TIED to the program's text (the seventh form; the later family's looks); each row that meets fmt, with fmt's text TOLD by the authors' own Lean function (tested against real Go, not proved from fmt's source: count such statements apart). THE CARD IS WHAT COUNTS. Prove the row's statement (the work); the ties are given (YtbghjlamedlchaaDoorTie.lean); close each card by the builder's one call (the guide's Derived/Test/ToyasCard.lean, 'card_holds'). Laid BY PROGRAM, IN A SANDBOX (cutbox-door.mjs). By AI agents, Wed Nov 11 2026. No macro, syntax, notation, axiom, sorry.
-/
import Derived.Test.YtbghjlamedlchaaDoorRows
import GoSem.ClaimSeven
namespace Go.Proofs.YtbghjlamedlchaaDoor
namespace Rows

/-- THE TIED CARD OF 'gantrylaw4.CiscEncodes'. -/
def ciscEncodesCard : Claim7 := { stood := { row := ciscEncodesRow, standIns := [], harness := (true, "e6c62965cdf35331c81a6c6533fc0de411849ef4aea11d1d6b78577a747aeb2f"), looks := true }, kinds := [], alts := [], laidByText := true, laidKinds := [.data, .data], laidTests := true, laidLooks := .later }
def CiscEncodesCardSaid : Prop := Claim7.holds Tryd.pinned (.plain (OpenSpec.ofChange ciscEncodesSpec)) ciscEncodesCard

/-- THE TIED CARD OF 'gantrylaw4.CiscDecodes'. -/
def ciscDecodesCard : Claim7 := { stood := { row := ciscDecodesRow, standIns := [], harness := (true, "e6c62965cdf35331c81a6c6533fc0de411849ef4aea11d1d6b78577a747aeb2f"), looks := true }, kinds := [], alts := [], laidByText := true, laidKinds := [.data, .data], laidTests := true, laidLooks := .later }
def CiscDecodesCardSaid : Prop := Claim7.holds Tryd.pinned (.plain (OpenSpec.ofChange ciscDecodesSpec)) ciscDecodesCard

/-- THE TIED CARD OF 'gantrylaw4.CiscBack'. -/
def ciscBackCard : Claim7 := { stood := { row := ciscBackRow, standIns := [], harness := (true, "e6c62965cdf35331c81a6c6533fc0de411849ef4aea11d1d6b78577a747aeb2f"), looks := true }, kinds := [], alts := [], laidByText := true, laidKinds := [.data, .data], laidTests := true, laidLooks := .later }
def CiscBackCardSaid : Prop := Claim7.holds Tryd.pinned (.plain (OpenSpec.ofChange ciscBackSpec)) ciscBackCard

/-- THE TIED CARD OF 'gantrylaw4.CiscRows'. -/
def ciscRowsCard : Claim7 := { stood := { row := ciscRowsRow, standIns := [], harness := (true, "e6c62965cdf35331c81a6c6533fc0de411849ef4aea11d1d6b78577a747aeb2f"), looks := true }, kinds := [], alts := [], laidByText := true, laidKinds := [.data, .data], laidTests := true, laidLooks := .later }
def CiscRowsCardSaid : Prop := Claim7.holds Tryd.pinned (.plain (OpenSpec.ofChange ciscRowsSpec)) ciscRowsCard

/-- THE SECOND FORM's CARD OF 'gantrylaw4.CiscEncodes'. -/
def ciscEncodesUptoCard : Claim7 := { stood := { row := ciscEncodesUptoRow, standIns := [], harness := (true, "e6c62965cdf35331c81a6c6533fc0de411849ef4aea11d1d6b78577a747aeb2f"), looks := true }, kinds := [], alts := [], laidByText := true, laidKinds := [.data, .data], laidTests := true, laidLooks := .later }
def CiscEncodesUptoCardSaid : Prop := Claim7.holds Tryd.pinned (.plain (OpenSpec.upto ciscEncodesSpec)) ciscEncodesUptoCard

/-- THE SECOND FORM's CARD OF 'gantrylaw4.CiscDecodes'. -/
def ciscDecodesUptoCard : Claim7 := { stood := { row := ciscDecodesUptoRow, standIns := [], harness := (true, "e6c62965cdf35331c81a6c6533fc0de411849ef4aea11d1d6b78577a747aeb2f"), looks := true }, kinds := [], alts := [], laidByText := true, laidKinds := [.data, .data], laidTests := true, laidLooks := .later }
def CiscDecodesUptoCardSaid : Prop := Claim7.holds Tryd.pinned (.plain (OpenSpec.upto ciscDecodesSpec)) ciscDecodesUptoCard

/-- THE SECOND FORM's CARD OF 'gantrylaw4.CiscBack'. -/
def ciscBackUptoCard : Claim7 := { stood := { row := ciscBackUptoRow, standIns := [], harness := (true, "e6c62965cdf35331c81a6c6533fc0de411849ef4aea11d1d6b78577a747aeb2f"), looks := true }, kinds := [], alts := [], laidByText := true, laidKinds := [.data, .data], laidTests := true, laidLooks := .later }
def CiscBackUptoCardSaid : Prop := Claim7.holds Tryd.pinned (.plain (OpenSpec.upto ciscBackSpec)) ciscBackUptoCard

/-- THE SECOND FORM's CARD OF 'gantrylaw4.CiscRows'. -/
def ciscRowsUptoCard : Claim7 := { stood := { row := ciscRowsUptoRow, standIns := [], harness := (true, "e6c62965cdf35331c81a6c6533fc0de411849ef4aea11d1d6b78577a747aeb2f"), looks := true }, kinds := [], alts := [], laidByText := true, laidKinds := [.data, .data], laidTests := true, laidLooks := .later }
def CiscRowsUptoCardSaid : Prop := Claim7.holds Tryd.pinned (.plain (OpenSpec.upto ciscRowsSpec)) ciscRowsUptoCard
end Rows
end Go.Proofs.YtbghjlamedlchaaDoor
