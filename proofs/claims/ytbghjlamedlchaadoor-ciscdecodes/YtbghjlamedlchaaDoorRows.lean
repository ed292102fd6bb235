/-
  NARROWER THAN 'FOR EVERY INPUT', by the rows' own cells (each row's printed sentence says how): CiscEncodes: laid · CiscDecodes: laid · CiscBack: laid · CiscRows: laid.
  DERIVED. THE GIVEN ROWS OF THIS SEAT. 4 by the template 'for every input the law returns true; each argument reads behind the call as it read before'; 0 by the template 'total and deterministic' (their statements: YtbghjlamedlchaaDoorTotals.lean).
  GIVEN WITH THE SEED: the statements are not yours to turn. If you find one false, say at which input.
  Laid BY PROGRAM, IN A SANDBOX (cutbox-rows.mjs): the forced cells as the released guide's own fill.sh prints them over the translation 7b9a23aa02b43591… (all of the seat's roots in one cut). By AI agents, Wed Nov 11 2026. No macro, syntax, notation, axiom, sorry.
-/
import Derived.Test.YtbghjlamedlchaaDoorChecked
import GoSem.Claim
import GoSem.ClaimJoined
import GoSem.ClaimMapViews
import Derived.JoinedTies
import Derived.KernelRfl
namespace Go.Proofs.YtbghjlamedlchaaDoor
/- THE CELL 'sum', in the pinned program and in every row, IS THE sha256 OF THE DUMP (.gsa) THAT YtbghjlamedlchaaDoorProg.lean LOADS. Nothing in Lean hashes anything: it is a label: what it is worth is what the hold of that sum in a sandbox is worth. -/
noncomputable def Tryd.pinned : Pinned := { name := "ytbghjlamedlchaadoor", sum := "7b9a23aa02b4359186b02ab0c64bbad05228fb9cffa2261718f86bd98d938a1a", checked := Tryd.checked }
namespace Rows
def none {H : Type} : Left H := { results := [], args := [] }

/- WHAT THE LISTED PACKAGE-LEVEL VARIABLES READ AS WHEN THE CALL BEGINS. Each datum BY PROGRAM (the guide's laid-datum.mjs) off the statement by which the dump's own 'gosem.cut.vars' lays the variable. In a bare row this is a premise. The card (YtbghjlamedlchaaDoorCards.lean) ties it to the program's text. -/
def laid_math_bits_deBruijn32tab {H : Type} : DataW H := .agg [.lit (.int .u8 0), .lit (.int .u8 1), .lit (.int .u8 28), .lit (.int .u8 2), .lit (.int .u8 29), .lit (.int .u8 14), .lit (.int .u8 24), .lit (.int .u8 3), .lit (.int .u8 30), .lit (.int .u8 22), .lit (.int .u8 20), .lit (.int .u8 15), .lit (.int .u8 25), .lit (.int .u8 17), .lit (.int .u8 4), .lit (.int .u8 8), .lit (.int .u8 31), .lit (.int .u8 27), .lit (.int .u8 13), .lit (.int .u8 23), .lit (.int .u8 21), .lit (.int .u8 19), .lit (.int .u8 16), .lit (.int .u8 7), .lit (.int .u8 26), .lit (.int .u8 12), .lit (.int .u8 18), .lit (.int .u8 6), .lit (.int .u8 11), .lit (.int .u8 5), .lit (.int .u8 10), .lit (.int .u8 9)]
def laid_math_bits_deBruijn64tab {H : Type} : DataW H := .agg [.lit (.int .u8 0), .lit (.int .u8 1), .lit (.int .u8 56), .lit (.int .u8 2), .lit (.int .u8 57), .lit (.int .u8 49), .lit (.int .u8 28), .lit (.int .u8 3), .lit (.int .u8 61), .lit (.int .u8 58), .lit (.int .u8 42), .lit (.int .u8 50), .lit (.int .u8 38), .lit (.int .u8 29), .lit (.int .u8 17), .lit (.int .u8 4), .lit (.int .u8 62), .lit (.int .u8 47), .lit (.int .u8 59), .lit (.int .u8 36), .lit (.int .u8 45), .lit (.int .u8 43), .lit (.int .u8 51), .lit (.int .u8 22), .lit (.int .u8 53), .lit (.int .u8 39), .lit (.int .u8 33), .lit (.int .u8 30), .lit (.int .u8 24), .lit (.int .u8 18), .lit (.int .u8 12), .lit (.int .u8 5), .lit (.int .u8 63), .lit (.int .u8 55), .lit (.int .u8 48), .lit (.int .u8 27), .lit (.int .u8 60), .lit (.int .u8 41), .lit (.int .u8 37), .lit (.int .u8 16), .lit (.int .u8 46), .lit (.int .u8 35), .lit (.int .u8 44), .lit (.int .u8 21), .lit (.int .u8 52), .lit (.int .u8 32), .lit (.int .u8 23), .lit (.int .u8 11), .lit (.int .u8 54), .lit (.int .u8 26), .lit (.int .u8 40), .lit (.int .u8 15), .lit (.int .u8 34), .lit (.int .u8 20), .lit (.int .u8 31), .lit (.int .u8 10), .lit (.int .u8 25), .lit (.int .u8 14), .lit (.int .u8 19), .lit (.int .u8 9), .lit (.int .u8 13), .lit (.int .u8 8), .lit (.int .u8 7), .lit (.int .u8 6)]

/-- 'gantrylaw4.CiscEncodes': WHATEVER THE INPUT: true; the input reads as it did. -/
def ciscEncodesSpec : ChangeSpec := { name := "ciscEncodes", fn := fun _ => fun
  | [d] => { results := [.lit (.bool true)], args := [d] }
  | _ => none }
def ciscEncodesRow : OpenClaim := { program := "ytbghjlamedlchaadoor", sum := "7b9a23aa02b4359186b02ab0c64bbad05228fb9cffa2261718f86bd98d938a1a", func := "gantry/gantrylaw4.CiscEncodes", spec := "ciscEncodes", inPlace := ["math.Float64frombits", "math.Float64bits"], unfollowed := true, recurses := true, named := ["math/bits.deBruijn32tab", "math/bits.deBruijn64tab"], apart := false, laid := [("math/bits.deBruijn32tab", laid_math_bits_deBruijn32tab), ("math/bits.deBruijn64tab", laid_math_bits_deBruijn64tab)] }
def CiscEncodesSaid : Prop := ciscEncodesRow.holds Tryd.pinned (OpenSpec.ofChange ciscEncodesSpec)

/-- ITS FALSE NEIGHBOUR: 'it returns false'. Refute it at one input. -/
def ciscEncodesWrong : ChangeSpec := { name := "ciscEncodes", fn := fun _ => fun
  | [d] => { results := [.lit (.bool false)], args := [d] }
  | _ => none }
def CiscEncodesWrongFalsely : Prop := ciscEncodesRow.holds Tryd.pinned (OpenSpec.ofChange ciscEncodesWrong)

/-- 'gantrylaw4.CiscDecodes': WHATEVER THE INPUT: true; the input reads as it did. -/
def ciscDecodesSpec : ChangeSpec := { name := "ciscDecodes", fn := fun _ => fun
  | [d] => { results := [.lit (.bool true)], args := [d] }
  | _ => none }
def ciscDecodesRow : OpenClaim := { program := "ytbghjlamedlchaadoor", sum := "7b9a23aa02b4359186b02ab0c64bbad05228fb9cffa2261718f86bd98d938a1a", func := "gantry/gantrylaw4.CiscDecodes", spec := "ciscDecodes", inPlace := ["math.Float64frombits", "math.Float64bits"], unfollowed := true, recurses := true, named := ["math/bits.deBruijn32tab", "math/bits.deBruijn64tab"], apart := false, laid := [("math/bits.deBruijn32tab", laid_math_bits_deBruijn32tab), ("math/bits.deBruijn64tab", laid_math_bits_deBruijn64tab)] }
def CiscDecodesSaid : Prop := ciscDecodesRow.holds Tryd.pinned (OpenSpec.ofChange ciscDecodesSpec)

/-- ITS FALSE NEIGHBOUR: 'it returns false'. Refute it at one input. -/
def ciscDecodesWrong : ChangeSpec := { name := "ciscDecodes", fn := fun _ => fun
  | [d] => { results := [.lit (.bool false)], args := [d] }
  | _ => none }
def CiscDecodesWrongFalsely : Prop := ciscDecodesRow.holds Tryd.pinned (OpenSpec.ofChange ciscDecodesWrong)

/-- 'gantrylaw4.CiscBack': WHATEVER THE INPUT: true; the input reads as it did. -/
def ciscBackSpec : ChangeSpec := { name := "ciscBack", fn := fun _ => fun
  | [d] => { results := [.lit (.bool true)], args := [d] }
  | _ => none }
def ciscBackRow : OpenClaim := { program := "ytbghjlamedlchaadoor", sum := "7b9a23aa02b4359186b02ab0c64bbad05228fb9cffa2261718f86bd98d938a1a", func := "gantry/gantrylaw4.CiscBack", spec := "ciscBack", inPlace := ["math.Float64frombits", "math.Float64bits"], unfollowed := true, recurses := true, named := ["math/bits.deBruijn32tab", "math/bits.deBruijn64tab"], apart := false, laid := [("math/bits.deBruijn32tab", laid_math_bits_deBruijn32tab), ("math/bits.deBruijn64tab", laid_math_bits_deBruijn64tab)] }
def CiscBackSaid : Prop := ciscBackRow.holds Tryd.pinned (OpenSpec.ofChange ciscBackSpec)

/-- ITS FALSE NEIGHBOUR: 'it returns false'. Refute it at one input. -/
def ciscBackWrong : ChangeSpec := { name := "ciscBack", fn := fun _ => fun
  | [d] => { results := [.lit (.bool false)], args := [d] }
  | _ => none }
def CiscBackWrongFalsely : Prop := ciscBackRow.holds Tryd.pinned (OpenSpec.ofChange ciscBackWrong)

/-- 'gantrylaw4.CiscRows': WHATEVER THE INPUT: true; the input reads as it did. -/
def ciscRowsSpec : ChangeSpec := { name := "ciscRows", fn := fun _ => fun
  | [d] => { results := [.lit (.bool true)], args := [d] }
  | _ => none }
def ciscRowsRow : OpenClaim := { program := "ytbghjlamedlchaadoor", sum := "7b9a23aa02b4359186b02ab0c64bbad05228fb9cffa2261718f86bd98d938a1a", func := "gantry/gantrylaw4.CiscRows", spec := "ciscRows", inPlace := ["math.Float64frombits", "math.Float64bits"], unfollowed := true, recurses := true, named := ["math/bits.deBruijn32tab", "math/bits.deBruijn64tab"], apart := false, laid := [("math/bits.deBruijn32tab", laid_math_bits_deBruijn32tab), ("math/bits.deBruijn64tab", laid_math_bits_deBruijn64tab)] }
def CiscRowsSaid : Prop := ciscRowsRow.holds Tryd.pinned (OpenSpec.ofChange ciscRowsSpec)

/-- ITS FALSE NEIGHBOUR: 'it returns false'. Refute it at one input. -/
def ciscRowsWrong : ChangeSpec := { name := "ciscRows", fn := fun _ => fun
  | [d] => { results := [.lit (.bool false)], args := [d] }
  | _ => none }
def CiscRowsWrongFalsely : Prop := ciscRowsRow.holds Tryd.pinned (OpenSpec.ofChange ciscRowsWrong)

/- THE SECOND FORM. 'bulk': how many values and letters a reading holds, each counted each time it is reached (what is shared counts as often as it is met; a slice's spare places count too). A statement '..UptoSaid' is the law's where the arguments, and the package variables that the reading takes, are together of bulk at most 1048576: NARROWER than '..Said'. Prove '..Said' where nothing that the law and all that it calls make is longer than what came in: it says more and counts as full. Else prove '..UptoSaid'. A law counts once. -/
mutual
def uptoBulk {H : Type} : DataW H → Nat
  | .lit (.string bytes) => bytes.length + 1
  | .lit _ => 1
  | .nil => 1
  | .ptr d => uptoBulk d + 1
  | .slice elems spare => uptoBulkAll elems + uptoBulkAll spare + 1
  | .agg parts => uptoBulkAll parts + 1
  | .iface _ d => uptoBulk d + 1
  | .map entries => uptoBulkEntries entries + 1
  | .held _ => 1
def uptoBulkAll {H : Type} : List (DataW H) → Nat
  | [] => 0
  | d :: r => uptoBulk d + uptoBulkAll r
def uptoBulkEntries {H : Type} : List (Lit × DataW H) → Nat
  | [] => 0
  | x :: r => uptoBulkEntry x + uptoBulkEntries r
def uptoBulkEntry {H : Type} : Lit × DataW H → Nat
  | (.string bytes, d) => bytes.length + uptoBulk d + 1
  | (_, d) => uptoBulk d + 1
 end
def uptoSmall : (H : Type) → List (DataW H) → Bool := fun _ ds => decide (uptoBulkAll ds ≤ 1048576)
def OpenSpec.upto (s : _root_.Go.ChangeSpec) : _root_.Go.OpenSpec := { _root_.Go.OpenSpec.ofChange s with cond := some uptoSmall }

/-- 'gantrylaw4.CiscEncodes', WHERE WHAT IT READS IS OF BULK AT MOST 1048576: true; the input reads as it did. -/
def ciscEncodesUptoRow : OpenClaim := { program := "ytbghjlamedlchaadoor", sum := "7b9a23aa02b4359186b02ab0c64bbad05228fb9cffa2261718f86bd98d938a1a", func := "gantry/gantrylaw4.CiscEncodes", spec := "ciscEncodes", inPlace := ["math.Float64frombits", "math.Float64bits"], unfollowed := true, recurses := true, named := ["math/bits.deBruijn32tab", "math/bits.deBruijn64tab"], apart := false, laid := [("math/bits.deBruijn32tab", laid_math_bits_deBruijn32tab), ("math/bits.deBruijn64tab", laid_math_bits_deBruijn64tab)], narrowed := true }
def CiscEncodesUptoSaid : Prop := ciscEncodesUptoRow.holds Tryd.pinned (OpenSpec.upto ciscEncodesSpec)

/-- 'gantrylaw4.CiscDecodes', WHERE WHAT IT READS IS OF BULK AT MOST 1048576: true; the input reads as it did. -/
def ciscDecodesUptoRow : OpenClaim := { program := "ytbghjlamedlchaadoor", sum := "7b9a23aa02b4359186b02ab0c64bbad05228fb9cffa2261718f86bd98d938a1a", func := "gantry/gantrylaw4.CiscDecodes", spec := "ciscDecodes", inPlace := ["math.Float64frombits", "math.Float64bits"], unfollowed := true, recurses := true, named := ["math/bits.deBruijn32tab", "math/bits.deBruijn64tab"], apart := false, laid := [("math/bits.deBruijn32tab", laid_math_bits_deBruijn32tab), ("math/bits.deBruijn64tab", laid_math_bits_deBruijn64tab)], narrowed := true }
def CiscDecodesUptoSaid : Prop := ciscDecodesUptoRow.holds Tryd.pinned (OpenSpec.upto ciscDecodesSpec)

/-- 'gantrylaw4.CiscBack', WHERE WHAT IT READS IS OF BULK AT MOST 1048576: true; the input reads as it did. -/
def ciscBackUptoRow : OpenClaim := { program := "ytbghjlamedlchaadoor", sum := "7b9a23aa02b4359186b02ab0c64bbad05228fb9cffa2261718f86bd98d938a1a", func := "gantry/gantrylaw4.CiscBack", spec := "ciscBack", inPlace := ["math.Float64frombits", "math.Float64bits"], unfollowed := true, recurses := true, named := ["math/bits.deBruijn32tab", "math/bits.deBruijn64tab"], apart := false, laid := [("math/bits.deBruijn32tab", laid_math_bits_deBruijn32tab), ("math/bits.deBruijn64tab", laid_math_bits_deBruijn64tab)], narrowed := true }
def CiscBackUptoSaid : Prop := ciscBackUptoRow.holds Tryd.pinned (OpenSpec.upto ciscBackSpec)

/-- 'gantrylaw4.CiscRows', WHERE WHAT IT READS IS OF BULK AT MOST 1048576: true; the input reads as it did. -/
def ciscRowsUptoRow : OpenClaim := { program := "ytbghjlamedlchaadoor", sum := "7b9a23aa02b4359186b02ab0c64bbad05228fb9cffa2261718f86bd98d938a1a", func := "gantry/gantrylaw4.CiscRows", spec := "ciscRows", inPlace := ["math.Float64frombits", "math.Float64bits"], unfollowed := true, recurses := true, named := ["math/bits.deBruijn32tab", "math/bits.deBruijn64tab"], apart := false, laid := [("math/bits.deBruijn32tab", laid_math_bits_deBruijn32tab), ("math/bits.deBruijn64tab", laid_math_bits_deBruijn64tab)], narrowed := true }
def CiscRowsUptoSaid : Prop := ciscRowsUptoRow.holds Tryd.pinned (OpenSpec.upto ciscRowsSpec)

end Rows
end Go.Proofs.YtbghjlamedlchaaDoor
