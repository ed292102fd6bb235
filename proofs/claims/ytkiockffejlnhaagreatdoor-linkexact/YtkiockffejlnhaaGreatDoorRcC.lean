/- unpack: its contract. -/
import Derived.Test.YtkiockffejlnhaaGreatDoorG1
namespace Go.Proofs.YtkiockffejlnhaaGreatDoor
set_option maxRecDepth 100000
set_option maxHeartbeats 32000000
open Go.RowKit
set_option linter.unusedVariables false
theorem unpack_any (f : FmV) (w : World) (h1 : -9223372036854775808 ≤ f.n) (h2 : f.n ≤ 9223372036854775807) :
    Calls Tryz.prog 56 #[formv f] w fun e w' => e = .returned (inst (Rc.unpk f)) ∧ w.grownBy w' none := by
  obtain ⟨op, a, b, c, n⟩ := f
  unfold formv
  dsimp only at *
  rcases Rc.ops op with rfl | rfl | rfl | rfl | rfl | rfl | rfl | rfl | rfl | rfl | rfl | rfl | rfl | rfl | rfl | rfl | rfl | rfl | rfl | rfl | ⟨h1, h2, h20, h21, h3, h26, h4, h7, h8, h9, h11, h13, h15, h19, h23, h25, h29, h27, h28, h24⟩
  all_goals
    go_enter Tryz.func56, Tryz.ntmps56
    go_wp2_with (go_at_call 76; refine (part_any _ _ h1 h2).mono ?_; rintro e w' ⟨rfl, rfl⟩)
    go_returns
    refine ⟨?_, grown_alloc2 _ _ _⟩
    first
      | rfl
      | (simp only [beq_eq_false_iff_ne, ne_eq] at *
         unfold Rc.unpk
         simp only [*, or_self, if_false]
         rfl)
end Go.Proofs.YtkiockffejlnhaaGreatDoor
