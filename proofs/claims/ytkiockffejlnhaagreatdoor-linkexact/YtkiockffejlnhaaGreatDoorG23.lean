/- What the listed variables give the walks: the table of package math/bits. -/
import Derived.Test.YtkiockffejlnhaaGreatDoorRows
import Derived.Test.YtkiockffejlnhaaGreatDoorG3
import Derived.LaidMore
import Derived.Lib.LaidTab
import Derived.Stop.Joined
import Derived.Stop.LaidErr
namespace Go.Proofs.YtkiockffejlnhaaGreatDoor
open Go.ChangeShapes Go.WideShapes Go.ChangeAt Go.RowKit
set_option linter.unusedVariables false
def laid2 : List (String × DataW Unit) := [("math/bits.deBruijn32tab", Rows.laid_math_bits_deBruijn32tab), ("math/bits.deBruijn64tab", Rows.laid_math_bits_deBruijn64tab)]
theorem g64 : Tryz.prog.globalNamed "math/bits.deBruijn64tab" = some 2 := by kernel_rfl
theorem t64 : (Tryz.prog.globals[2]?).map (·.type) = some 152 := by kernel_rfl
theorem cells64 : Tryz.prog.cellsOf 152 = 64 := by kernel_rfl
theorem cells8 : Tryz.prog.cellsOf 5 = 1 := by kernel_rfl
theorem data64 : (Rows.laid_math_bits_deBruijn64tab : DataW Unit) = Lib.tabData .u8 Cc.tzL := rfl
theorem tab_of_laid {W : World} (h : laidMetH Tryz.prog laid2 W) : TabAt W := by
 rw [MakeChecks.laidMetH_plain _ _ _ (by kernel_rfl)] at h
 have h2 := laidMet.tail h
 rw [data64] at h2
 have hT := Lib.tabIs_of_head g64 t64 Tryz.underlying152 Tryz.underlying5 cells8 cells64 h2
 have hc : ∀ i, i < 64 → W.cell? ⟨2, i, none⟩ = some (.int .u8 (Cc.tzL.getD i 0)) := fun i hi => hT.cell g64 i hi
 exact ⟨World.block_lt_of_cell? W ⟨2, 0, none⟩ (hc 0 (by decide)), hc⟩
theorem door_met (os : Os) (args : Array Value) : laidMetH Tryz.prog laid2 ((World.doorLaid Tryz.prog 19 os).forCall (fun _ _ => 0) ⟨#[], args, []⟩).memory :=
 laidMetH_of_parts3 (fuel := 8) (laidMet_of_run' 8 (by kernel_rfl) (by kernel_rfl)) (by kernel_rfl) (by kernel_rfl)
end Go.Proofs.YtkiockffejlnhaaGreatDoor
