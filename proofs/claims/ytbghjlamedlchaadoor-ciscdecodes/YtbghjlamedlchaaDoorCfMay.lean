/- gantryref4.May: its contract. -/
import Derived.Test.YtbghjlamedlchaaDoorCfUse
namespace Go.Proofs.YtbghjlamedlchaaDoor
open Go.RowKit
set_option linter.unusedVariables false

set_option maxHeartbeats 4000000 in
theorem rbinary_any (v : InV) (w : World) :
    Calls Tryd.prog 22 #[inst v] w fun e w' => e = .returned (.bool (Cc.binB v)) ∧ w.grownBy w' none := by
  unfold inst
  cases hb : Wd.hasBinB v.sub v.k
  all_goals
    cases hs : Wd.shB v.sub
    all_goals
      cases hk : Wd.intB v.k
      all_goals
        go_enter Tryd.func22, Tryd.ntmps22
        go_wp2_with (first
          | (go_at_call 26; refine (rint_any _ _).mono ?_; rw [hk]; rintro e w' ⟨rfl, rfl⟩)
          | (go_at_call 24; refine (rhasBin_any _ _ _).mono ?_; rw [hb]; rintro e w' ⟨rfl, rfl⟩)
          | (go_at_call 25; refine (rshift_any _ _).mono ?_; rw [hs]; rintro e w' ⟨rfl, rfl⟩))
        all_goals
          go_ret
          refine ⟨ret_bool ?_, World.grownBy_alloc _ _ _⟩
          unfold Cc.binB
          simp only [hb, hs, hk]
          first | rfl | (simp_all; done)

set_option maxHeartbeats 4000000 in
theorem rscaled_any (v : InV) (w : World) :
    Calls Tryd.prog 29 #[inst v] w fun e w' => e = .returned (.bool (Cc.sclB v)) ∧ w.grownBy w' none := by
  unfold inst
  go_enter Tryd.func29, Tryd.ntmps29
  go_wp2
  all_goals
    go_ret
    refine ⟨ret_bool ?_, World.grownBy_alloc _ _ _⟩
    unfold Cc.sclB
    first | rfl | (simp_all; done)
theorem rbinary_at (op a b c k sub sc imm lb : Int) (w : World) :
    Calls Tryd.prog 22 #[.agg #[.int .i64 op, .int .i64 a, .int .i64 b, .int .i64 c, .int .i64 k, .int .i64 sub, .int .i64 sc, .int .i64 imm, .int .i64 lb]] w fun e w' => e = .returned (.bool (Cc.binB ⟨op, a, b, c, k, sub, sc, imm, lb⟩)) ∧ w.grownBy w' none := rbinary_any ⟨op, a, b, c, k, sub, sc, imm, lb⟩ w
theorem rscaled_at (op a b c k sub sc imm lb : Int) (w : World) :
    Calls Tryd.prog 29 #[.agg #[.int .i64 op, .int .i64 a, .int .i64 b, .int .i64 c, .int .i64 k, .int .i64 sub, .int .i64 sc, .int .i64 imm, .int .i64 lb]] w fun e w' => e = .returned (.bool (Cc.sclB ⟨op, a, b, c, k, sub, sc, imm, lb⟩)) ∧ w.grownBy w' none := rscaled_any ⟨op, a, b, c, k, sub, sc, imm, lb⟩ w
end Go.Proofs.YtbghjlamedlchaaDoor
