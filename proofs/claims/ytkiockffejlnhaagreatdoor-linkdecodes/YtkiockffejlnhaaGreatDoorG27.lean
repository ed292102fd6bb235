/- gantryref4.May: its contract. -/
import Derived.Test.YtkiockffejlnhaaGreatDoorCfMa
import Derived.Test.YtkiockffejlnhaaGreatDoorCfMb
import Derived.Test.YtkiockffejlnhaaGreatDoorCfMc
import Derived.Test.YtkiockffejlnhaaGreatDoorCfMd
namespace Go.Proofs.YtkiockffejlnhaaGreatDoor
open Go.RowKit
set_option linter.unusedVariables false
set_option maxRecDepth 100000 in
set_option maxHeartbeats 4000000 in
theorem rmay_none (v : InV) (w : World) (h : Cc.rowS v.op = ⟨#[]⟩) :
    Calls Tryz.prog 69 #[inst v] w fun e w' => e = .returned (.bool false) ∧ w.grownBy w' none := by
  have HR : Hid (∀ W, Calls Tryz.prog 72 #[.int .i64 v.op] W fun e w' => e = .returned (.string ⟨#[]⟩) ∧ w' = W) := fun W => by rw [← h]; exact rrow_any v.op W
  unfold inst
  go_enter Tryz.func69, Tryz.ntmps69
  simp only [List.append]
  go_wp2_with (go_at_call 72; refine (HR.out _).mono ?_; rintro e w' ⟨rfl, rfl⟩)
  go_ret
  exact ⟨rfl, World.grownBy_alloc _ _ _⟩
theorem rmay4_any (v : InV) (w : World) (h1 : -9223372036854775808 ≤ v.imm) (h2 : v.imm ≤ 9223372036854775807) :
    Calls Tryz.prog 69 #[inst v] w fun e w' => e = .returned (.bool (Cc.mayB v)) ∧ w.grownBy w' none := by
  have ho := Cc.ops v.op
  obtain ⟨op, a, b, c, k, sub, sc, imm, lb⟩ := v
  dsimp only at h1 h2 ho
  rcases ho with rfl | rfl | rfl | rfl | rfl | rfl | rfl | rfl | rfl | rfl | rfl | rfl | rfl | rfl | rfl | rfl | rfl | rfl | rfl | rfl | rfl | rfl | rfl | rfl | rfl | h
  · exact rmay_1 a b c k sub sc imm lb w h1 h2
  · exact rmay_3 a b c k sub sc imm lb w h1 h2
  · exact rmay_4 a b c k sub sc imm lb w h1 h2
  · exact rmay_5 a b c k sub sc imm lb w h1 h2
  · exact rmay_6 a b c k sub sc imm lb w h1 h2
  · exact rmay_7 a b c k sub sc imm lb w h1 h2
  · exact rmay_8 a b c k sub sc imm lb w h1 h2
  · exact rmay_10 a b c k sub sc imm lb w h1 h2
  · exact rmay_11 a b c k sub sc imm lb w h1 h2
  · exact rmay_12 a b c k sub sc imm lb w h1 h2
  · exact rmay_13 a b c k sub sc imm lb w h1 h2
  · exact rmay_14 a b c k sub sc imm lb w h1 h2
  · exact rmay_15 a b c k sub sc imm lb w h1 h2
  · exact rmay_16 a b c k sub sc imm lb w h1 h2
  · exact rmay_17 a b c k sub sc imm lb w h1 h2
  · exact rmay_18 a b c k sub sc imm lb w h1 h2
  · exact rmay_19 a b c k sub sc imm lb w h1 h2
  · exact rmay_22 a b c k sub sc imm lb w h1 h2
  · exact rmay_23 a b c k sub sc imm lb w h1 h2
  · exact rmay_24 a b c k sub sc imm lb w h1 h2
  · exact rmay_25 a b c k sub sc imm lb w h1 h2
  · exact rmay_26 a b c k sub sc imm lb w h1 h2
  · exact rmay_27 a b c k sub sc imm lb w h1 h2
  · exact rmay_28 a b c k sub sc imm lb w h1 h2
  · exact rmay_29 a b c k sub sc imm lb w h1 h2
  · have hm : Cc.mayB ⟨op, a, b, c, k, sub, sc, imm, lb⟩ = false := by
      unfold Cc.mayB
      rw [(Cc.row_none h).1]
      rfl
    rw [hm]
    exact rmay_none _ w (Cc.rowS_none h)
end Go.Proofs.YtkiockffejlnhaaGreatDoor
