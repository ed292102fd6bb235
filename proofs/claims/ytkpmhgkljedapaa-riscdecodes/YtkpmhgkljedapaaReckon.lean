/- What is reckoned of two ints: contracts. -/
import Derived.Test.YtkpmhgkljedapaaCanon
namespace Go.Proofs.Ytkpmhgkljedapaa
open Go.RowKit

theorem cmpI_tr {op a b : Int} : Wd.cmpI op a b = 0 ∨ Wd.cmpI op a b = 1 := by
  unfold Wd.cmpI Wd.tr; repeat' split
  all_goals simp

set_option maxHeartbeats 400000 in
theorem compareU_any (op a b : Int) (w : World) :
    Calls Try.prog 58 #[.int .i64 op, .int .u64 a, .int .u64 b] w fun e w' => e = .returned (.int .u64 (Wd.cmpI op a b)) ∧ w' = w := by
  go_enter Try.func58, Try.ntmps58
  go_wp2
  all_goals (go_ret; refine ⟨ret_u64 ?_, rfl⟩; simp only [beq_iff_eq, beq_eq_false_iff_ne] at *; unfold Wd.cmpI Wd.tr; simp_all <;> omega)

set_option maxHeartbeats 400000 in
theorem compareI_any (op a b : Int) (w : World) :
    Calls Try.prog 57 #[.int .i64 op, .int .i64 a, .int .i64 b] w fun e w' => e = .returned (.int .u64 (Wd.cmpI op a b)) ∧ w' = w := by
  go_enter Try.func57, Try.ntmps57
  go_wp2
  all_goals (go_ret; refine ⟨ret_u64 ?_, rfl⟩; simp only [beq_iff_eq, beq_eq_false_iff_ne] at *; unfold Wd.cmpI Wd.tr; simp_all <;> omega)

end Go.Proofs.Ytkpmhgkljedapaa
