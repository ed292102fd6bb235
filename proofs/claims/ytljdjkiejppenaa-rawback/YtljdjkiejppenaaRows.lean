/-
  NARROWER THAN 'FOR EVERY INPUT', by the rows' own cells (each row's printed sentence says how): RawEncodes: loops · RawBack: loops.
  DERIVED. THE GIVEN ROWS OF THIS SEAT. 3 by the template 'for every input the law returns true; each argument reads behind the call as it read before'; 0 by the template 'total and deterministic' (their statements: YtljdjkiejppenaaTotals.lean).
  GIVEN WITH THE SEED: the statements are not yours to turn. If you find one false, say at which input.
  Laid BY PROGRAM, IN A SANDBOX (cutbox-rows.mjs): the forced cells as the released guide's own fill.sh prints them over the translation d15d7284b835d791… (all of the seat's roots in one cut). By AI agents, Wed Nov 11 2026. No macro, syntax, notation, axiom, sorry.
-/
import Derived.Test.YtljdjkiejppenaaChecked
import GoSem.Claim
import GoSem.ClaimJoined
import GoSem.ClaimMapViews
import Derived.JoinedTies
import Derived.KernelRfl
namespace Go.Proofs.Ytljdjkiejppenaa
/- THE CELL 'sum', in the pinned program and in every row, IS THE sha256 OF THE DUMP (.gsa) THAT YtljdjkiejppenaaProg.lean LOADS. Nothing in Lean hashes anything: it is a label: what it is worth is what the hold of that sum in a sandbox is worth. -/
noncomputable def Try.pinned : Pinned := { name := "ytljdjkiejppenaa", sum := "d15d7284b835d7918e1faace73d48ce226a68a25119463f1d431a450b70d256b", checked := Try.checked }
namespace Rows
def none {H : Type} : Left H := { results := [], args := [] }

/-- 'gantrylaw8.RawEncodes': WHATEVER THE INPUT: true; the input reads as it did. -/
def rawEncodesSpec : ChangeSpec := { name := "rawEncodes", fn := fun _ => fun
  | [d] => { results := [.lit (.bool true)], args := [d] }
  | _ => none }
def rawEncodesRow : OpenClaim := { program := "ytljdjkiejppenaa", sum := "d15d7284b835d7918e1faace73d48ce226a68a25119463f1d431a450b70d256b", func := "gantry/gantrylaw8.RawEncodes", spec := "rawEncodes", unfollowed := true, recurses := true, loops := true, apart := false }
def RawEncodesSaid : Prop := rawEncodesRow.holds Try.pinned (OpenSpec.ofChange rawEncodesSpec)

/-- ITS FALSE NEIGHBOUR: 'it returns false'. Refute it at one input. -/
def rawEncodesWrong : ChangeSpec := { name := "rawEncodes", fn := fun _ => fun
  | [d] => { results := [.lit (.bool false)], args := [d] }
  | _ => none }
def RawEncodesWrongFalsely : Prop := rawEncodesRow.holds Try.pinned (OpenSpec.ofChange rawEncodesWrong)

/-- 'gantrylaw8.RawDecodes': WHATEVER THE INPUT: true; the input reads as it did. -/
def rawDecodesSpec : ChangeSpec := { name := "rawDecodes", fn := fun _ => fun
  | [d] => { results := [.lit (.bool true)], args := [d] }
  | _ => none }
def rawDecodesRow : OpenClaim := { program := "ytljdjkiejppenaa", sum := "d15d7284b835d7918e1faace73d48ce226a68a25119463f1d431a450b70d256b", func := "gantry/gantrylaw8.RawDecodes", spec := "rawDecodes", unfollowed := true, recurses := true, apart := false }
def RawDecodesSaid : Prop := rawDecodesRow.holds Try.pinned (OpenSpec.ofChange rawDecodesSpec)

/-- ITS FALSE NEIGHBOUR: 'it returns false'. Refute it at one input. -/
def rawDecodesWrong : ChangeSpec := { name := "rawDecodes", fn := fun _ => fun
  | [d] => { results := [.lit (.bool false)], args := [d] }
  | _ => none }
def RawDecodesWrongFalsely : Prop := rawDecodesRow.holds Try.pinned (OpenSpec.ofChange rawDecodesWrong)

/-- 'gantrylaw8.RawBack': WHATEVER THE INPUT: true; the input reads as it did. -/
def rawBackSpec : ChangeSpec := { name := "rawBack", fn := fun _ => fun
  | [d] => { results := [.lit (.bool true)], args := [d] }
  | _ => none }
def rawBackRow : OpenClaim := { program := "ytljdjkiejppenaa", sum := "d15d7284b835d7918e1faace73d48ce226a68a25119463f1d431a450b70d256b", func := "gantry/gantrylaw8.RawBack", spec := "rawBack", unfollowed := true, recurses := true, loops := true, apart := false }
def RawBackSaid : Prop := rawBackRow.holds Try.pinned (OpenSpec.ofChange rawBackSpec)

/-- ITS FALSE NEIGHBOUR: 'it returns false'. Refute it at one input. -/
def rawBackWrong : ChangeSpec := { name := "rawBack", fn := fun _ => fun
  | [d] => { results := [.lit (.bool false)], args := [d] }
  | _ => none }
def RawBackWrongFalsely : Prop := rawBackRow.holds Try.pinned (OpenSpec.ofChange rawBackWrong)

/- THE SECOND FORM. 'bulk': how many values and letters a reading holds, each counted each time it is reached (what is shared counts as often as it is met; a slice's spare places count too). A statement '..UptoSaid' is the law's where the arguments, and the package variables that the reading takes, are together of bulk at most 1048576: NARROWER than '..Said'. Prove '..Said' where nothing that the law and all that it calls make is longer than what came in: it says more and counts as full. Else prove '..UptoSaid'. A law counts once. -/
mutual
def uptoBulk {H : Type} : DataW H → Nat
  | .lit (.string bytes) => bytes.length + 1
  | .lit _ => 1
  | .nil => 1
  | .ptr d => uptoBulk d + 1
  | .slice elems spare => uptoBulkAll elems + uptoBulkAll spare + 1
  | .agg parts => uptoBulkAll parts + 1
  | .iface _ d => uptoBulk d + 1
  | .map entries => uptoBulkEntries entries + 1
  | .held _ => 1
def uptoBulkAll {H : Type} : List (DataW H) → Nat
  | [] => 0
  | d :: r => uptoBulk d + uptoBulkAll r
def uptoBulkEntries {H : Type} : List (Lit × DataW H) → Nat
  | [] => 0
  | x :: r => uptoBulkEntry x + uptoBulkEntries r
def uptoBulkEntry {H : Type} : Lit × DataW H → Nat
  | (.string bytes, d) => bytes.length + uptoBulk d + 1
  | (_, d) => uptoBulk d + 1
 end
def uptoSmall : (H : Type) → List (DataW H) → Bool := fun _ ds => decide (uptoBulkAll ds ≤ 1048576)
def OpenSpec.upto (s : _root_.Go.ChangeSpec) : _root_.Go.OpenSpec := { _root_.Go.OpenSpec.ofChange s with cond := some uptoSmall }

/-- 'gantrylaw8.RawEncodes', WHERE WHAT IT READS IS OF BULK AT MOST 1048576: true; the input reads as it did. -/
def rawEncodesUptoRow : OpenClaim := { program := "ytljdjkiejppenaa", sum := "d15d7284b835d7918e1faace73d48ce226a68a25119463f1d431a450b70d256b", func := "gantry/gantrylaw8.RawEncodes", spec := "rawEncodes", unfollowed := true, recurses := true, loops := true, apart := false, narrowed := true }
def RawEncodesUptoSaid : Prop := rawEncodesUptoRow.holds Try.pinned (OpenSpec.upto rawEncodesSpec)

/-- 'gantrylaw8.RawDecodes', WHERE WHAT IT READS IS OF BULK AT MOST 1048576: true; the input reads as it did. -/
def rawDecodesUptoRow : OpenClaim := { program := "ytljdjkiejppenaa", sum := "d15d7284b835d7918e1faace73d48ce226a68a25119463f1d431a450b70d256b", func := "gantry/gantrylaw8.RawDecodes", spec := "rawDecodes", unfollowed := true, recurses := true, apart := false, narrowed := true }
def RawDecodesUptoSaid : Prop := rawDecodesUptoRow.holds Try.pinned (OpenSpec.upto rawDecodesSpec)

/-- 'gantrylaw8.RawBack', WHERE WHAT IT READS IS OF BULK AT MOST 1048576: true; the input reads as it did. -/
def rawBackUptoRow : OpenClaim := { program := "ytljdjkiejppenaa", sum := "d15d7284b835d7918e1faace73d48ce226a68a25119463f1d431a450b70d256b", func := "gantry/gantrylaw8.RawBack", spec := "rawBack", unfollowed := true, recurses := true, loops := true, apart := false, narrowed := true }
def RawBackUptoSaid : Prop := rawBackUptoRow.holds Try.pinned (OpenSpec.upto rawBackSpec)

end Rows
end Go.Proofs.Ytljdjkiejppenaa
