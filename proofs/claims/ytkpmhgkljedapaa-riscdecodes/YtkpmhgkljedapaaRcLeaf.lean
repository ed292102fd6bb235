/- Small functions of risc, gantryref3 and gantrylaw3: contracts. -/
import Derived.Test.YtkpmhgkljedapaaRcPure
namespace Go.Proofs.Ytkpmhgkljedapaa
open Go.RowKit
set_option linter.unusedVariables false

set_option maxHeartbeats 400000 in
theorem num_any (x : Int) (w : World) :
    Calls Try.prog 8 #[.int .i64 x] w fun e w' => e = .returned (.int .i64 x) ∧ w' = w := by
  go_enter Try.func8, Try.ntmps8
  go_wp2
  go_ret
  exact ⟨rfl, rfl⟩

set_option maxHeartbeats 400000 in
theorem isReg_any (k : Int) (w : World) :
    Calls Try.prog 35 #[.int .i64 k] w fun e w' => e = .returned (.bool (Rc.regB k)) ∧ w' = w := by
  go_enter Try.func35, Try.ntmps35
  go_wp2
  all_goals (go_ret; refine ⟨ret_bool ?_, rfl⟩; simp only [Rc.regB] at *; first | (rw [Bool.eq_iff_iff]; simp at *; omega))

set_option maxHeartbeats 400000 in
theorem rreg_any (k : Int) (w : World) :
    Calls Try.prog 20 #[.int .i64 k] w fun e w' => e = .returned (.bool (Rc.regB k)) ∧ w' = w := by
  go_enter Try.func20, Try.ntmps20
  go_wp2
  all_goals (go_ret; refine ⟨ret_bool ?_, rfl⟩; simp only [Rc.regB] at *; first | (rw [Bool.eq_iff_iff]; simp at *; omega))

set_option maxHeartbeats 400000 in
theorem rsmall_any (k : Int) (w : World) :
    Calls Try.prog 21 #[.int .i64 k] w fun e w' => e = .returned (.bool (Rc.smallB k)) ∧ w' = w := by
  go_enter Try.func21, Try.ntmps21
  go_wp2
  all_goals (go_ret; refine ⟨ret_bool ?_, rfl⟩; simp only [Rc.smallB] at *; first | (rw [Bool.eq_iff_iff]; simp at *; omega))

set_option maxHeartbeats 400000 in
theorem join_any (k s : Int) (w : World) :
    Calls Try.prog 30 #[.int .i64 k, .int .i64 s] w fun e w' => e = .returned (.int .i64 (wrap64 (k + 256 * s))) ∧ w' = w := by
  go_enter Try.func30, Try.ntmps30
  go_wp2
  go_ret
  refine ⟨ret_i64 ?_, rfl⟩
  unfold wrap64; omega

set_option maxHeartbeats 400000 in
theorem fields_any (op : Int) (w : World) :
    Calls Try.prog 19 #[.int .i64 op] w fun e w' => e = .returned (.string (Rc.fld op)) ∧ w' = w := by
  go_enter Try.func19, Try.ntmps19
  go_wp2
  all_goals (go_ret; refine ⟨?_, rfl⟩; simp only [beq_iff_eq, beq_eq_false_iff_ne] at *; unfold Rc.fld; simp [*])

end Go.Proofs.Ytkpmhgkljedapaa
