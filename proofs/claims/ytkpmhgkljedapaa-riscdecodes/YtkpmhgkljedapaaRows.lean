/-
  No cell of these rows narrows 'for every input' (looked for: loops, veiled, ifaces, maps, wideKeys, modest, calm, conditions, laid).
  DERIVED. THE GIVEN ROWS OF THIS SEAT. 3 by the template 'for every input the law returns true; each argument reads behind the call as it read before'; 0 by the template 'total and deterministic' (their statements: YtkpmhgkljedapaaTotals.lean).
  GIVEN WITH THE SEED: the statements are not yours to turn. If you find one false, say at which input.
  Laid BY PROGRAM, IN A SANDBOX (cutbox-rows.mjs): the forced cells as the released guide's own fill.sh prints them over the translation 24804f32febe2b60… (all of the seat's roots in one cut). By AI agents, Wed Nov 11 2026. No macro, syntax, notation, axiom, sorry.
-/
import Derived.Test.YtkpmhgkljedapaaChecked
import GoSem.Claim
import GoSem.ClaimJoined
import GoSem.ClaimMapViews
import Derived.JoinedTies
import Derived.KernelRfl
namespace Go.Proofs.Ytkpmhgkljedapaa
/- THE CELL 'sum', in the pinned program and in every row, IS THE sha256 OF THE DUMP (.gsa) THAT YtkpmhgkljedapaaProg.lean LOADS. Nothing in Lean hashes anything: it is a label: what it is worth is what the hold of that sum in a sandbox is worth. -/
noncomputable def Try.pinned : Pinned := { name := "ytkpmhgkljedapaa", sum := "24804f32febe2b6054cee0e9d38868e3d0105e331fb8ff1a3e7b3002105ec02c", checked := Try.checked }
namespace Rows
def none {H : Type} : Left H := { results := [], args := [] }

/-- 'gantrylaw3.RiscEncodes': WHATEVER THE INPUT: true; the input reads as it did. -/
def riscEncodesSpec : ChangeSpec := { name := "riscEncodes", fn := fun _ => fun
  | [d] => { results := [.lit (.bool true)], args := [d] }
  | _ => none }
def riscEncodesRow : OpenClaim := { program := "ytkpmhgkljedapaa", sum := "24804f32febe2b6054cee0e9d38868e3d0105e331fb8ff1a3e7b3002105ec02c", func := "gantry/gantrylaw3.RiscEncodes", spec := "riscEncodes", inPlace := ["math.Float64frombits", "math.Float64bits"], apart := false }
def RiscEncodesSaid : Prop := riscEncodesRow.holds Try.pinned (OpenSpec.ofChange riscEncodesSpec)

/-- ITS FALSE NEIGHBOUR: 'it returns false'. Refute it at one input. -/
def riscEncodesWrong : ChangeSpec := { name := "riscEncodes", fn := fun _ => fun
  | [d] => { results := [.lit (.bool false)], args := [d] }
  | _ => none }
def RiscEncodesWrongFalsely : Prop := riscEncodesRow.holds Try.pinned (OpenSpec.ofChange riscEncodesWrong)

/-- 'gantrylaw3.RiscDecodes': WHATEVER THE INPUT: true; the input reads as it did. -/
def riscDecodesSpec : ChangeSpec := { name := "riscDecodes", fn := fun _ => fun
  | [d] => { results := [.lit (.bool true)], args := [d] }
  | _ => none }
def riscDecodesRow : OpenClaim := { program := "ytkpmhgkljedapaa", sum := "24804f32febe2b6054cee0e9d38868e3d0105e331fb8ff1a3e7b3002105ec02c", func := "gantry/gantrylaw3.RiscDecodes", spec := "riscDecodes", inPlace := ["math.Float64frombits", "math.Float64bits"], apart := false }
def RiscDecodesSaid : Prop := riscDecodesRow.holds Try.pinned (OpenSpec.ofChange riscDecodesSpec)

/-- ITS FALSE NEIGHBOUR: 'it returns false'. Refute it at one input. -/
def riscDecodesWrong : ChangeSpec := { name := "riscDecodes", fn := fun _ => fun
  | [d] => { results := [.lit (.bool false)], args := [d] }
  | _ => none }
def RiscDecodesWrongFalsely : Prop := riscDecodesRow.holds Try.pinned (OpenSpec.ofChange riscDecodesWrong)

/-- 'gantrylaw3.RiscBack': WHATEVER THE INPUT: true; the input reads as it did. -/
def riscBackSpec : ChangeSpec := { name := "riscBack", fn := fun _ => fun
  | [d] => { results := [.lit (.bool true)], args := [d] }
  | _ => none }
def riscBackRow : OpenClaim := { program := "ytkpmhgkljedapaa", sum := "24804f32febe2b6054cee0e9d38868e3d0105e331fb8ff1a3e7b3002105ec02c", func := "gantry/gantrylaw3.RiscBack", spec := "riscBack", inPlace := ["math.Float64frombits", "math.Float64bits"], apart := false }
def RiscBackSaid : Prop := riscBackRow.holds Try.pinned (OpenSpec.ofChange riscBackSpec)

/-- ITS FALSE NEIGHBOUR: 'it returns false'. Refute it at one input. -/
def riscBackWrong : ChangeSpec := { name := "riscBack", fn := fun _ => fun
  | [d] => { results := [.lit (.bool false)], args := [d] }
  | _ => none }
def RiscBackWrongFalsely : Prop := riscBackRow.holds Try.pinned (OpenSpec.ofChange riscBackWrong)

/- THE SECOND FORM. 'bulk': how many values and letters a reading holds, each counted each time it is reached (what is shared counts as often as it is met; a slice's spare places count too). A statement '..UptoSaid' is the law's where the arguments, and the package variables that the reading takes, are together of bulk at most 1048576: NARROWER than '..Said'. Prove '..Said' where nothing that the law and all that it calls make is longer than what came in: it says more and counts as full. Else prove '..UptoSaid'. A law counts once. -/
mutual
def uptoBulk {H : Type} : DataW H → Nat
  | .lit (.string bytes) => bytes.length + 1
  | .lit _ => 1
  | .nil => 1
  | .ptr d => uptoBulk d + 1
  | .slice elems spare => uptoBulkAll elems + uptoBulkAll spare + 1
  | .agg parts => uptoBulkAll parts + 1
  | .iface _ d => uptoBulk d + 1
  | .map entries => uptoBulkEntries entries + 1
  | .held _ => 1
def uptoBulkAll {H : Type} : List (DataW H) → Nat
  | [] => 0
  | d :: r => uptoBulk d + uptoBulkAll r
def uptoBulkEntries {H : Type} : List (Lit × DataW H) → Nat
  | [] => 0
  | x :: r => uptoBulkEntry x + uptoBulkEntries r
def uptoBulkEntry {H : Type} : Lit × DataW H → Nat
  | (.string bytes, d) => bytes.length + uptoBulk d + 1
  | (_, d) => uptoBulk d + 1
 end
def uptoSmall : (H : Type) → List (DataW H) → Bool := fun _ ds => decide (uptoBulkAll ds ≤ 1048576)
def OpenSpec.upto (s : _root_.Go.ChangeSpec) : _root_.Go.OpenSpec := { _root_.Go.OpenSpec.ofChange s with cond := some uptoSmall }

/-- 'gantrylaw3.RiscEncodes', WHERE WHAT IT READS IS OF BULK AT MOST 1048576: true; the input reads as it did. -/
def riscEncodesUptoRow : OpenClaim := { program := "ytkpmhgkljedapaa", sum := "24804f32febe2b6054cee0e9d38868e3d0105e331fb8ff1a3e7b3002105ec02c", func := "gantry/gantrylaw3.RiscEncodes", spec := "riscEncodes", inPlace := ["math.Float64frombits", "math.Float64bits"], apart := false, narrowed := true }
def RiscEncodesUptoSaid : Prop := riscEncodesUptoRow.holds Try.pinned (OpenSpec.upto riscEncodesSpec)

/-- 'gantrylaw3.RiscDecodes', WHERE WHAT IT READS IS OF BULK AT MOST 1048576: true; the input reads as it did. -/
def riscDecodesUptoRow : OpenClaim := { program := "ytkpmhgkljedapaa", sum := "24804f32febe2b6054cee0e9d38868e3d0105e331fb8ff1a3e7b3002105ec02c", func := "gantry/gantrylaw3.RiscDecodes", spec := "riscDecodes", inPlace := ["math.Float64frombits", "math.Float64bits"], apart := false, narrowed := true }
def RiscDecodesUptoSaid : Prop := riscDecodesUptoRow.holds Try.pinned (OpenSpec.upto riscDecodesSpec)

/-- 'gantrylaw3.RiscBack', WHERE WHAT IT READS IS OF BULK AT MOST 1048576: true; the input reads as it did. -/
def riscBackUptoRow : OpenClaim := { program := "ytkpmhgkljedapaa", sum := "24804f32febe2b6054cee0e9d38868e3d0105e331fb8ff1a3e7b3002105ec02c", func := "gantry/gantrylaw3.RiscBack", spec := "riscBack", inPlace := ["math.Float64frombits", "math.Float64bits"], apart := false, narrowed := true }
def RiscBackUptoSaid : Prop := riscBackUptoRow.holds Try.pinned (OpenSpec.upto riscBackSpec)

end Rows
end Go.Proofs.Ytkpmhgkljedapaa
