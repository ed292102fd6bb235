/- pack: its contract. -/
import Derived.Test.YtkiockffejlnhaaGreatDoorG1
namespace Go.Proofs.YtkiockffejlnhaaGreatDoor
set_option maxRecDepth 100000
set_option maxHeartbeats 32000000
open Go.RowKit
set_option linter.unusedVariables false
theorem pack_4 (a b c k sub sc imm lb : Int) (w : World) :
    Calls Tryz.prog 77 #[.agg #[.int .i64 4, .int .i64 a, .int .i64 b, .int .i64 c, .int .i64 k, .int .i64 sub, .int .i64 sc, .int .i64 imm, .int .i64 lb]] w fun e w' => e = .returned (.agg #[.int .i64 4, .int .i64 a, .int .i64 b, .int .i64 c, .int .i64 (wrap64 (k + 256 * sub))]) ∧ w.grownBy w' none := by
  go_enter Tryz.func77, Tryz.ntmps77
  go_wp2_with fail
  refine tail_drew 14 (by kernel_rfl) (by kernel_rfl) ?_
  simp only [List.take_succ_cons, List.take_zero, List.drop_succ_cons, List.drop_zero]
  repeat still_step
  still_call (join_any _ _ _)
  repeat still_step
  refine wpStill_nil ?_
  go_wp2
  go_returns
  exact ⟨rfl, grown_drew (grown_alloc2 _ _ _)⟩
theorem pack_7 (a b c k sub sc imm lb : Int) (w : World) :
    Calls Tryz.prog 77 #[.agg #[.int .i64 7, .int .i64 a, .int .i64 b, .int .i64 c, .int .i64 k, .int .i64 sub, .int .i64 sc, .int .i64 imm, .int .i64 lb]] w fun e w' => e = .returned (.agg #[.int .i64 7, .int .i64 a, .int .i64 b, .int .i64 0, .int .i64 (wrap64 (k + 256 * sub))]) ∧ w.grownBy w' none := by
  go_enter Tryz.func77, Tryz.ntmps77
  go_wp2_with fail
  refine tail_drew 12 (by kernel_rfl) (by kernel_rfl) ?_
  simp only [List.take_succ_cons, List.take_zero, List.drop_succ_cons, List.drop_zero]
  repeat still_step
  still_call (join_any _ _ _)
  repeat still_step
  refine wpStill_nil ?_
  go_wp2
  go_returns
  exact ⟨rfl, grown_drew (grown_alloc2 _ _ _)⟩
theorem pack_8 (a b c k sub sc imm lb : Int) (w : World) :
    Calls Tryz.prog 77 #[.agg #[.int .i64 8, .int .i64 a, .int .i64 b, .int .i64 c, .int .i64 k, .int .i64 sub, .int .i64 sc, .int .i64 imm, .int .i64 lb]] w fun e w' => e = .returned (.agg #[.int .i64 8, .int .i64 a, .int .i64 b, .int .i64 0, .int .i64 (wrap64 (k + 256 * sub))]) ∧ w.grownBy w' none := by
  go_enter Tryz.func77, Tryz.ntmps77
  go_wp2_with fail
  refine tail_drew 12 (by kernel_rfl) (by kernel_rfl) ?_
  simp only [List.take_succ_cons, List.take_zero, List.drop_succ_cons, List.drop_zero]
  repeat still_step
  still_call (join_any _ _ _)
  repeat still_step
  refine wpStill_nil ?_
  go_wp2
  go_returns
  exact ⟨rfl, grown_drew (grown_alloc2 _ _ _)⟩
theorem pack_any (v : InV) (w : World) :
    Calls Tryz.prog 77 #[inst v] w fun e w' => e = .returned (formv (Rc.pk v)) ∧ w.grownBy w' none := by
  obtain ⟨op, a, b, c, k, sub, sc, imm, lb⟩ := v
  unfold inst
  dsimp only
  rcases Rc.ops op with rfl | rfl | rfl | rfl | rfl | rfl | rfl | rfl | rfl | rfl | rfl | rfl | rfl | rfl | rfl | rfl | rfl | rfl | rfl | rfl | ⟨h1, h2, h20, h21, h3, h26, h4, h7, h8, h9, h11, h13, h15, h19, h23, h25, h29, h27, h28, h24⟩
  all_goals first
    | exact pack_4 a b c k sub sc imm lb w
    | exact pack_7 a b c k sub sc imm lb w
    | exact pack_8 a b c k sub sc imm lb w
    | (go_enter Tryz.func77, Tryz.ntmps77
       go_wp2
       go_returns
       refine ⟨?_, grown_alloc2 _ _ _⟩
       first
         | rfl
         | (simp only [beq_eq_false_iff_ne, ne_eq] at *
            unfold Rc.pk
            simp only [*, or_self, if_false]
            rfl))
end Go.Proofs.YtkiockffejlnhaaGreatDoor
