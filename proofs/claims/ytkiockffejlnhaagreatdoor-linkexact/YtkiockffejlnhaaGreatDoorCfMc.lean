/- gantryref4.May, code by code, on. -/
import Derived.Test.YtkiockffejlnhaaGreatDoorG18
import Derived.Deep.RegionWith
import Derived.BigGuardPart
import Derived.Deep.Light
namespace Go.Proofs.YtkiockffejlnhaaGreatDoor
set_option maxRecDepth 100000
set_option maxHeartbeats 32000000
open Go.RowKit
set_option linter.unusedVariables false
theorem may_23 (a b c k sub sc imm lb : Int) : Cc.mayB ⟨23, a, b, c, k, sub, sc, imm, lb⟩ = ((lb == 0) && Rc.regB a && Rc.regB b && Rc.regB c && (a == 0) && (b == 0) && ((c == 0 && sc == 0)) && (k == 0) && (sub == 0) && Rc.smallB imm) := by
 show (true && (lb == 0) && Rc.regB a && Rc.regB b && Rc.regB c && (false || a == 0) && (false || b == 0) && (false || (c == 0 && sc == 0)) && (false || k == 0) && (false || sub == 0) && (true || imm == 0) && (false || Rc.smallB imm) && true) = _
 simp only [Bool.true_and, Bool.and_true, Bool.true_or, Bool.false_or, Bool.and_assoc]
theorem rmay_23 (a b c k sub sc imm lb : Int) (w : World) (h1 : -9223372036854775808 ≤ imm) (h2 : imm ≤ 9223372036854775807) :
  Calls Tryz.prog 69 #[.agg #[.int .i64 23, .int .i64 a, .int .i64 b, .int .i64 c, .int .i64 k, .int .i64 sub, .int .i64 sc, .int .i64 imm, .int .i64 lb]] w fun e w' => e = .returned (.bool (Cc.mayB ⟨23, a, b, c, k, sub, sc, imm, lb⟩)) ∧ w.grownBy w' none := by
 have HM : Hid (Cc.mayB ⟨23, a, b, c, k, sub, sc, imm, lb⟩ = ((lb == 0) && Rc.regB a && Rc.regB b && Rc.regB c && (a == 0) && (b == 0) && ((c == 0 && sc == 0)) && (k == 0) && (sub == 0) && Rc.smallB imm)) := may_23 a b c k sub sc imm lb
 have HR : Hid (∀ W, Calls Tryz.prog 72 #[.int .i64 23] W fun e w' => e = .returned (.string ⟨#[52]⟩) ∧ w' = W) := rrow_any 23
 have UA : Hid (∀ W, Calls Tryz.prog 102 #[.int .i64 23, .int .u8 65] W fun e w' => e = .returned (.bool false) ∧ w' = W) := ruses_any 23 65
 have UB : Hid (∀ W, Calls Tryz.prog 102 #[.int .i64 23, .int .u8 66] W fun e w' => e = .returned (.bool false) ∧ w' = W) := ruses_any 23 66
 have UC : Hid (∀ W, Calls Tryz.prog 102 #[.int .i64 23, .int .u8 67] W fun e w' => e = .returned (.bool false) ∧ w' = W) := ruses_any 23 67
 have UK : Hid (∀ W, Calls Tryz.prog 102 #[.int .i64 23, .int .u8 75] W fun e w' => e = .returned (.bool false) ∧ w' = W) := ruses_any 23 75
 have US : Hid (∀ W, Calls Tryz.prog 102 #[.int .i64 23, .int .u8 83] W fun e w' => e = .returned (.bool false) ∧ w' = W) := ruses_any 23 83
 have UI : Hid (∀ W, Calls Tryz.prog 102 #[.int .i64 23, .int .u8 73] W fun e w' => e = .returned (.bool true) ∧ w' = W) := ruses_any 23 73
 go_enter Tryz.func69, Tryz.ntmps69
 simp only [List.append]
 go_wp2_with (first
  | (go_at_call 72; refine (HR.out _).mono ?_; rintro e w' ⟨rfl, rfl⟩)
  | (go_at_call 95; refine (rreg_any _ _).mono ?_; rintro e w' ⟨rfl, rfl⟩)
  | (go_at_call_of 102 (Value.int .u8 65); refine (UA.out _).mono ?_; rintro e w' ⟨rfl, rfl⟩)
  | (go_at_call_of 102 (Value.int .u8 66); refine (UB.out _).mono ?_; rintro e w' ⟨rfl, rfl⟩)
  | (go_at_call_of 102 (Value.int .u8 67); refine (UC.out _).mono ?_; rintro e w' ⟨rfl, rfl⟩)
  | (go_at_call_of 102 (Value.int .u8 75); refine (UK.out _).mono ?_; rintro e w' ⟨rfl, rfl⟩)
  | (go_at_call_of 102 (Value.int .u8 83); refine (US.out _).mono ?_; rintro e w' ⟨rfl, rfl⟩)
  | (go_at_call_of 102 (Value.int .u8 73); refine (UI.out _).mono ?_; rintro e w' ⟨rfl, rfl⟩)
  | (go_at_call 71; refine (rsmall_any _ _).mono ?_; rintro e w' ⟨rfl, rfl⟩))
 all_goals
  go_ret
  refine ⟨ret_bool ?_, by first | exact gal | exact gtr gal g2⟩
  go_light
  clear HR UA UB UC UK US UI
  rw [HM.out]
  clear HM
  first | (simp [*]; done) | (simp_all; done) | (simp_all; omega)
theorem may_24 (a b c k sub sc imm lb : Int) : Cc.mayB ⟨24, a, b, c, k, sub, sc, imm, lb⟩ = ((lb == 0) && Rc.regB a && Rc.regB b && Rc.regB c && (a == 0) && (b == 0) && ((c == 0 && sc == 0)) && (k == 0) && (sub == 0) && (imm == 0) && Rc.smallB imm) := by
 show (true && (lb == 0) && Rc.regB a && Rc.regB b && Rc.regB c && (false || a == 0) && (false || b == 0) && (false || (c == 0 && sc == 0)) && (false || k == 0) && (false || sub == 0) && (false || imm == 0) && (false || Rc.smallB imm) && true) = _
 simp only [Bool.true_and, Bool.and_true, Bool.false_or, Bool.and_assoc]
theorem rmay_24 (a b c k sub sc imm lb : Int) (w : World) (h1 : -9223372036854775808 ≤ imm) (h2 : imm ≤ 9223372036854775807) :
  Calls Tryz.prog 69 #[.agg #[.int .i64 24, .int .i64 a, .int .i64 b, .int .i64 c, .int .i64 k, .int .i64 sub, .int .i64 sc, .int .i64 imm, .int .i64 lb]] w fun e w' => e = .returned (.bool (Cc.mayB ⟨24, a, b, c, k, sub, sc, imm, lb⟩)) ∧ w.grownBy w' none := by
 have HM : Hid (Cc.mayB ⟨24, a, b, c, k, sub, sc, imm, lb⟩ = ((lb == 0) && Rc.regB a && Rc.regB b && Rc.regB c && (a == 0) && (b == 0) && ((c == 0 && sc == 0)) && (k == 0) && (sub == 0) && (imm == 0) && Rc.smallB imm)) := may_24 a b c k sub sc imm lb
 have HR : Hid (∀ W, Calls Tryz.prog 72 #[.int .i64 24] W fun e w' => e = .returned (.string ⟨#[45]⟩) ∧ w' = W) := rrow_any 24
 have UA : Hid (∀ W, Calls Tryz.prog 102 #[.int .i64 24, .int .u8 65] W fun e w' => e = .returned (.bool false) ∧ w' = W) := ruses_any 24 65
 have UB : Hid (∀ W, Calls Tryz.prog 102 #[.int .i64 24, .int .u8 66] W fun e w' => e = .returned (.bool false) ∧ w' = W) := ruses_any 24 66
 have UC : Hid (∀ W, Calls Tryz.prog 102 #[.int .i64 24, .int .u8 67] W fun e w' => e = .returned (.bool false) ∧ w' = W) := ruses_any 24 67
 have UK : Hid (∀ W, Calls Tryz.prog 102 #[.int .i64 24, .int .u8 75] W fun e w' => e = .returned (.bool false) ∧ w' = W) := ruses_any 24 75
 have US : Hid (∀ W, Calls Tryz.prog 102 #[.int .i64 24, .int .u8 83] W fun e w' => e = .returned (.bool false) ∧ w' = W) := ruses_any 24 83
 have UI : Hid (∀ W, Calls Tryz.prog 102 #[.int .i64 24, .int .u8 73] W fun e w' => e = .returned (.bool false) ∧ w' = W) := ruses_any 24 73
 go_enter Tryz.func69, Tryz.ntmps69
 simp only [List.append]
 go_wp2_with (first
  | (go_at_call 72; refine (HR.out _).mono ?_; rintro e w' ⟨rfl, rfl⟩)
  | (go_at_call 95; refine (rreg_any _ _).mono ?_; rintro e w' ⟨rfl, rfl⟩)
  | (go_at_call_of 102 (Value.int .u8 65); refine (UA.out _).mono ?_; rintro e w' ⟨rfl, rfl⟩)
  | (go_at_call_of 102 (Value.int .u8 66); refine (UB.out _).mono ?_; rintro e w' ⟨rfl, rfl⟩)
  | (go_at_call_of 102 (Value.int .u8 67); refine (UC.out _).mono ?_; rintro e w' ⟨rfl, rfl⟩)
  | (go_at_call_of 102 (Value.int .u8 75); refine (UK.out _).mono ?_; rintro e w' ⟨rfl, rfl⟩)
  | (go_at_call_of 102 (Value.int .u8 83); refine (US.out _).mono ?_; rintro e w' ⟨rfl, rfl⟩)
  | (go_at_call_of 102 (Value.int .u8 73); refine (UI.out _).mono ?_; rintro e w' ⟨rfl, rfl⟩)
  | (go_at_call 71; refine (rsmall_any _ _).mono ?_; rintro e w' ⟨rfl, rfl⟩))
 all_goals
  go_ret
  refine ⟨ret_bool ?_, by first | exact gal | exact gtr gal g2⟩
  go_light
  clear HR UA UB UC UK US UI
  rw [HM.out]
  clear HM
  first | (simp [*]; done) | (simp_all; done) | (simp_all; omega)
theorem may_25 (a b c k sub sc imm lb : Int) : Cc.mayB ⟨25, a, b, c, k, sub, sc, imm, lb⟩ = ((lb == 0) && Rc.regB a && Rc.regB b && Rc.regB c && (a == 0) && (b == 0) && ((c == 0 && sc == 0)) && (k == 0) && (sub == 0) && Rc.smallB imm && decide (0 ≤ imm)) := by
 show (true && (lb == 0) && Rc.regB a && Rc.regB b && Rc.regB c && (false || a == 0) && (false || b == 0) && (false || (c == 0 && sc == 0)) && (false || k == 0) && (false || sub == 0) && (true || imm == 0) && (false || Rc.smallB imm) && decide (0 ≤ imm)) = _
 simp only [Bool.true_and, Bool.and_true, Bool.true_or, Bool.false_or, Bool.and_assoc]
theorem rmay_25 (a b c k sub sc imm lb : Int) (w : World) (h1 : -9223372036854775808 ≤ imm) (h2 : imm ≤ 9223372036854775807) :
  Calls Tryz.prog 69 #[.agg #[.int .i64 25, .int .i64 a, .int .i64 b, .int .i64 c, .int .i64 k, .int .i64 sub, .int .i64 sc, .int .i64 imm, .int .i64 lb]] w fun e w' => e = .returned (.bool (Cc.mayB ⟨25, a, b, c, k, sub, sc, imm, lb⟩)) ∧ w.grownBy w' none := by
 have HM : Hid (Cc.mayB ⟨25, a, b, c, k, sub, sc, imm, lb⟩ = ((lb == 0) && Rc.regB a && Rc.regB b && Rc.regB c && (a == 0) && (b == 0) && ((c == 0 && sc == 0)) && (k == 0) && (sub == 0) && Rc.smallB imm && decide (0 ≤ imm))) := may_25 a b c k sub sc imm lb
 have HR : Hid (∀ W, Calls Tryz.prog 72 #[.int .i64 25] W fun e w' => e = .returned (.string ⟨#[52]⟩) ∧ w' = W) := rrow_any 25
 have UA : Hid (∀ W, Calls Tryz.prog 102 #[.int .i64 25, .int .u8 65] W fun e w' => e = .returned (.bool false) ∧ w' = W) := ruses_any 25 65
 have UB : Hid (∀ W, Calls Tryz.prog 102 #[.int .i64 25, .int .u8 66] W fun e w' => e = .returned (.bool false) ∧ w' = W) := ruses_any 25 66
 have UC : Hid (∀ W, Calls Tryz.prog 102 #[.int .i64 25, .int .u8 67] W fun e w' => e = .returned (.bool false) ∧ w' = W) := ruses_any 25 67
 have UK : Hid (∀ W, Calls Tryz.prog 102 #[.int .i64 25, .int .u8 75] W fun e w' => e = .returned (.bool false) ∧ w' = W) := ruses_any 25 75
 have US : Hid (∀ W, Calls Tryz.prog 102 #[.int .i64 25, .int .u8 83] W fun e w' => e = .returned (.bool false) ∧ w' = W) := ruses_any 25 83
 have UI : Hid (∀ W, Calls Tryz.prog 102 #[.int .i64 25, .int .u8 73] W fun e w' => e = .returned (.bool true) ∧ w' = W) := ruses_any 25 73
 go_enter Tryz.func69, Tryz.ntmps69
 simp only [List.append]
 go_wp2_with (first
  | (go_at_call 72; refine (HR.out _).mono ?_; rintro e w' ⟨rfl, rfl⟩)
  | (go_at_call 95; refine (rreg_any _ _).mono ?_; rintro e w' ⟨rfl, rfl⟩)
  | (go_at_call_of 102 (Value.int .u8 65); refine (UA.out _).mono ?_; rintro e w' ⟨rfl, rfl⟩)
  | (go_at_call_of 102 (Value.int .u8 66); refine (UB.out _).mono ?_; rintro e w' ⟨rfl, rfl⟩)
  | (go_at_call_of 102 (Value.int .u8 67); refine (UC.out _).mono ?_; rintro e w' ⟨rfl, rfl⟩)
  | (go_at_call_of 102 (Value.int .u8 75); refine (UK.out _).mono ?_; rintro e w' ⟨rfl, rfl⟩)
  | (go_at_call_of 102 (Value.int .u8 83); refine (US.out _).mono ?_; rintro e w' ⟨rfl, rfl⟩)
  | (go_at_call_of 102 (Value.int .u8 73); refine (UI.out _).mono ?_; rintro e w' ⟨rfl, rfl⟩)
  | (go_at_call 71; refine (rsmall_any _ _).mono ?_; rintro e w' ⟨rfl, rfl⟩))
 all_goals
  go_ret
  refine ⟨ret_bool ?_, by first | exact gal | exact gtr gal g2⟩
  go_light
  clear HR UA UB UC UK US UI
  rw [HM.out]
  clear HM
  first | (simp [*]; done) | (simp_all; done) | (simp_all; omega)
theorem may_26 (a b c k sub sc imm lb : Int) : Cc.mayB ⟨26, a, b, c, k, sub, sc, imm, lb⟩ = ((lb == 0) && Rc.regB a && Rc.regB b && Rc.regB c && ((c == 0 && sc == 0)) && (k == 0) && (sub == 0) && (imm == 0) && Rc.smallB imm) := by
 show (true && (lb == 0) && Rc.regB a && Rc.regB b && Rc.regB c && (true || a == 0) && (true || b == 0) && (false || (c == 0 && sc == 0)) && (false || k == 0) && (false || sub == 0) && (false || imm == 0) && (false || Rc.smallB imm) && true) = _
 simp only [Bool.true_and, Bool.and_true, Bool.true_or, Bool.false_or, Bool.and_assoc]
theorem rmay_26 (a b c k sub sc imm lb : Int) (w : World) (h1 : -9223372036854775808 ≤ imm) (h2 : imm ≤ 9223372036854775807) :
  Calls Tryz.prog 69 #[.agg #[.int .i64 26, .int .i64 a, .int .i64 b, .int .i64 c, .int .i64 k, .int .i64 sub, .int .i64 sc, .int .i64 imm, .int .i64 lb]] w fun e w' => e = .returned (.bool (Cc.mayB ⟨26, a, b, c, k, sub, sc, imm, lb⟩)) ∧ w.grownBy w' none := by
 have HM : Hid (Cc.mayB ⟨26, a, b, c, k, sub, sc, imm, lb⟩ = ((lb == 0) && Rc.regB a && Rc.regB b && Rc.regB c && ((c == 0 && sc == 0)) && (k == 0) && (sub == 0) && (imm == 0) && Rc.smallB imm)) := may_26 a b c k sub sc imm lb
 have HR : Hid (∀ W, Calls Tryz.prog 72 #[.int .i64 26] W fun e w' => e = .returned (.string ⟨#[97]⟩) ∧ w' = W) := rrow_any 26
 have UA : Hid (∀ W, Calls Tryz.prog 102 #[.int .i64 26, .int .u8 65] W fun e w' => e = .returned (.bool true) ∧ w' = W) := ruses_any 26 65
 have UB : Hid (∀ W, Calls Tryz.prog 102 #[.int .i64 26, .int .u8 66] W fun e w' => e = .returned (.bool true) ∧ w' = W) := ruses_any 26 66
 have UC : Hid (∀ W, Calls Tryz.prog 102 #[.int .i64 26, .int .u8 67] W fun e w' => e = .returned (.bool false) ∧ w' = W) := ruses_any 26 67
 have UK : Hid (∀ W, Calls Tryz.prog 102 #[.int .i64 26, .int .u8 75] W fun e w' => e = .returned (.bool false) ∧ w' = W) := ruses_any 26 75
 have US : Hid (∀ W, Calls Tryz.prog 102 #[.int .i64 26, .int .u8 83] W fun e w' => e = .returned (.bool false) ∧ w' = W) := ruses_any 26 83
 have UI : Hid (∀ W, Calls Tryz.prog 102 #[.int .i64 26, .int .u8 73] W fun e w' => e = .returned (.bool false) ∧ w' = W) := ruses_any 26 73
 go_enter Tryz.func69, Tryz.ntmps69
 simp only [List.append]
 go_wp2_with (first
  | (go_at_call 72; refine (HR.out _).mono ?_; rintro e w' ⟨rfl, rfl⟩)
  | (go_at_call 95; refine (rreg_any _ _).mono ?_; rintro e w' ⟨rfl, rfl⟩)
  | (go_at_call_of 102 (Value.int .u8 65); refine (UA.out _).mono ?_; rintro e w' ⟨rfl, rfl⟩)
  | (go_at_call_of 102 (Value.int .u8 66); refine (UB.out _).mono ?_; rintro e w' ⟨rfl, rfl⟩)
  | (go_at_call_of 102 (Value.int .u8 67); refine (UC.out _).mono ?_; rintro e w' ⟨rfl, rfl⟩)
  | (go_at_call_of 102 (Value.int .u8 75); refine (UK.out _).mono ?_; rintro e w' ⟨rfl, rfl⟩)
  | (go_at_call_of 102 (Value.int .u8 83); refine (US.out _).mono ?_; rintro e w' ⟨rfl, rfl⟩)
  | (go_at_call_of 102 (Value.int .u8 73); refine (UI.out _).mono ?_; rintro e w' ⟨rfl, rfl⟩)
  | (go_at_call 71; refine (rsmall_any _ _).mono ?_; rintro e w' ⟨rfl, rfl⟩))
 all_goals
  go_ret
  refine ⟨ret_bool ?_, by first | exact gal | exact gtr gal g2⟩
  go_light
  clear HR UA UB UC UK US UI
  rw [HM.out]
  clear HM
  first | (simp [*]; done) | (simp_all; done) | (simp_all; omega)
theorem may_27 (a b c k sub sc imm lb : Int) : Cc.mayB ⟨27, a, b, c, k, sub, sc, imm, lb⟩ = ((lb == 0) && Rc.regB a && Rc.regB b && Rc.regB c && (b == 0) && ((c == 0 && sc == 0)) && (k == 0) && (sub == 0) && (imm == 0) && Rc.smallB imm) := by
 show (true && (lb == 0) && Rc.regB a && Rc.regB b && Rc.regB c && (true || a == 0) && (false || b == 0) && (false || (c == 0 && sc == 0)) && (false || k == 0) && (false || sub == 0) && (false || imm == 0) && (false || Rc.smallB imm) && true) = _
 simp only [Bool.true_and, Bool.and_true, Bool.true_or, Bool.false_or, Bool.and_assoc]
theorem rmay_27 (a b c k sub sc imm lb : Int) (w : World) (h1 : -9223372036854775808 ≤ imm) (h2 : imm ≤ 9223372036854775807) :
  Calls Tryz.prog 69 #[.agg #[.int .i64 27, .int .i64 a, .int .i64 b, .int .i64 c, .int .i64 k, .int .i64 sub, .int .i64 sc, .int .i64 imm, .int .i64 lb]] w fun e w' => e = .returned (.bool (Cc.mayB ⟨27, a, b, c, k, sub, sc, imm, lb⟩)) ∧ w.grownBy w' none := by
 have HM : Hid (Cc.mayB ⟨27, a, b, c, k, sub, sc, imm, lb⟩ = ((lb == 0) && Rc.regB a && Rc.regB b && Rc.regB c && (b == 0) && ((c == 0 && sc == 0)) && (k == 0) && (sub == 0) && (imm == 0) && Rc.smallB imm)) := may_27 a b c k sub sc imm lb
 have HR : Hid (∀ W, Calls Tryz.prog 72 #[.int .i64 27] W fun e w' => e = .returned (.string ⟨#[97]⟩) ∧ w' = W) := rrow_any 27
 have UA : Hid (∀ W, Calls Tryz.prog 102 #[.int .i64 27, .int .u8 65] W fun e w' => e = .returned (.bool true) ∧ w' = W) := ruses_any 27 65
 have UB : Hid (∀ W, Calls Tryz.prog 102 #[.int .i64 27, .int .u8 66] W fun e w' => e = .returned (.bool false) ∧ w' = W) := ruses_any 27 66
 have UC : Hid (∀ W, Calls Tryz.prog 102 #[.int .i64 27, .int .u8 67] W fun e w' => e = .returned (.bool false) ∧ w' = W) := ruses_any 27 67
 have UK : Hid (∀ W, Calls Tryz.prog 102 #[.int .i64 27, .int .u8 75] W fun e w' => e = .returned (.bool false) ∧ w' = W) := ruses_any 27 75
 have US : Hid (∀ W, Calls Tryz.prog 102 #[.int .i64 27, .int .u8 83] W fun e w' => e = .returned (.bool false) ∧ w' = W) := ruses_any 27 83
 have UI : Hid (∀ W, Calls Tryz.prog 102 #[.int .i64 27, .int .u8 73] W fun e w' => e = .returned (.bool false) ∧ w' = W) := ruses_any 27 73
 go_enter Tryz.func69, Tryz.ntmps69
 simp only [List.append]
 go_wp2_with (first
  | (go_at_call 72; refine (HR.out _).mono ?_; rintro e w' ⟨rfl, rfl⟩)
  | (go_at_call 95; refine (rreg_any _ _).mono ?_; rintro e w' ⟨rfl, rfl⟩)
  | (go_at_call_of 102 (Value.int .u8 65); refine (UA.out _).mono ?_; rintro e w' ⟨rfl, rfl⟩)
  | (go_at_call_of 102 (Value.int .u8 66); refine (UB.out _).mono ?_; rintro e w' ⟨rfl, rfl⟩)
  | (go_at_call_of 102 (Value.int .u8 67); refine (UC.out _).mono ?_; rintro e w' ⟨rfl, rfl⟩)
  | (go_at_call_of 102 (Value.int .u8 75); refine (UK.out _).mono ?_; rintro e w' ⟨rfl, rfl⟩)
  | (go_at_call_of 102 (Value.int .u8 83); refine (US.out _).mono ?_; rintro e w' ⟨rfl, rfl⟩)
  | (go_at_call_of 102 (Value.int .u8 73); refine (UI.out _).mono ?_; rintro e w' ⟨rfl, rfl⟩)
  | (go_at_call 71; refine (rsmall_any _ _).mono ?_; rintro e w' ⟨rfl, rfl⟩))
 all_goals
  go_ret
  refine ⟨ret_bool ?_, by first | exact gal | exact gtr gal g2⟩
  go_light
  clear HR UA UB UC UK US UI
  rw [HM.out]
  clear HM
  first | (simp [*]; done) | (simp_all; done) | (simp_all; omega)
theorem may_28 (a b c k sub sc imm lb : Int) : Cc.mayB ⟨28, a, b, c, k, sub, sc, imm, lb⟩ = ((lb == 0) && Rc.regB a && Rc.regB b && Rc.regB c && (b == 0) && ((c == 0 && sc == 0)) && (k == 0) && (sub == 0) && (imm == 0) && Rc.smallB imm) := by
 show (true && (lb == 0) && Rc.regB a && Rc.regB b && Rc.regB c && (true || a == 0) && (false || b == 0) && (false || (c == 0 && sc == 0)) && (false || k == 0) && (false || sub == 0) && (false || imm == 0) && (false || Rc.smallB imm) && true) = _
 simp only [Bool.true_and, Bool.and_true, Bool.true_or, Bool.false_or, Bool.and_assoc]
theorem rmay_28 (a b c k sub sc imm lb : Int) (w : World) (h1 : -9223372036854775808 ≤ imm) (h2 : imm ≤ 9223372036854775807) :
  Calls Tryz.prog 69 #[.agg #[.int .i64 28, .int .i64 a, .int .i64 b, .int .i64 c, .int .i64 k, .int .i64 sub, .int .i64 sc, .int .i64 imm, .int .i64 lb]] w fun e w' => e = .returned (.bool (Cc.mayB ⟨28, a, b, c, k, sub, sc, imm, lb⟩)) ∧ w.grownBy w' none := by
 have HM : Hid (Cc.mayB ⟨28, a, b, c, k, sub, sc, imm, lb⟩ = ((lb == 0) && Rc.regB a && Rc.regB b && Rc.regB c && (b == 0) && ((c == 0 && sc == 0)) && (k == 0) && (sub == 0) && (imm == 0) && Rc.smallB imm)) := may_28 a b c k sub sc imm lb
 have HR : Hid (∀ W, Calls Tryz.prog 72 #[.int .i64 28] W fun e w' => e = .returned (.string ⟨#[97]⟩) ∧ w' = W) := rrow_any 28
 have UA : Hid (∀ W, Calls Tryz.prog 102 #[.int .i64 28, .int .u8 65] W fun e w' => e = .returned (.bool true) ∧ w' = W) := ruses_any 28 65
 have UB : Hid (∀ W, Calls Tryz.prog 102 #[.int .i64 28, .int .u8 66] W fun e w' => e = .returned (.bool false) ∧ w' = W) := ruses_any 28 66
 have UC : Hid (∀ W, Calls Tryz.prog 102 #[.int .i64 28, .int .u8 67] W fun e w' => e = .returned (.bool false) ∧ w' = W) := ruses_any 28 67
 have UK : Hid (∀ W, Calls Tryz.prog 102 #[.int .i64 28, .int .u8 75] W fun e w' => e = .returned (.bool false) ∧ w' = W) := ruses_any 28 75
 have US : Hid (∀ W, Calls Tryz.prog 102 #[.int .i64 28, .int .u8 83] W fun e w' => e = .returned (.bool false) ∧ w' = W) := ruses_any 28 83
 have UI : Hid (∀ W, Calls Tryz.prog 102 #[.int .i64 28, .int .u8 73] W fun e w' => e = .returned (.bool false) ∧ w' = W) := ruses_any 28 73
 go_enter Tryz.func69, Tryz.ntmps69
 simp only [List.append]
 go_wp2_with (first
  | (go_at_call 72; refine (HR.out _).mono ?_; rintro e w' ⟨rfl, rfl⟩)
  | (go_at_call 95; refine (rreg_any _ _).mono ?_; rintro e w' ⟨rfl, rfl⟩)
  | (go_at_call_of 102 (Value.int .u8 65); refine (UA.out _).mono ?_; rintro e w' ⟨rfl, rfl⟩)
  | (go_at_call_of 102 (Value.int .u8 66); refine (UB.out _).mono ?_; rintro e w' ⟨rfl, rfl⟩)
  | (go_at_call_of 102 (Value.int .u8 67); refine (UC.out _).mono ?_; rintro e w' ⟨rfl, rfl⟩)
  | (go_at_call_of 102 (Value.int .u8 75); refine (UK.out _).mono ?_; rintro e w' ⟨rfl, rfl⟩)
  | (go_at_call_of 102 (Value.int .u8 83); refine (US.out _).mono ?_; rintro e w' ⟨rfl, rfl⟩)
  | (go_at_call_of 102 (Value.int .u8 73); refine (UI.out _).mono ?_; rintro e w' ⟨rfl, rfl⟩)
  | (go_at_call 71; refine (rsmall_any _ _).mono ?_; rintro e w' ⟨rfl, rfl⟩))
 all_goals
  go_ret
  refine ⟨ret_bool ?_, by first | exact gal | exact gtr gal g2⟩
  go_light
  clear HR UA UB UC UK US UI
  rw [HM.out]
  clear HM
  first | (simp [*]; done) | (simp_all; done) | (simp_all; omega)
theorem may_29 (a b c k sub sc imm lb : Int) : Cc.mayB ⟨29, a, b, c, k, sub, sc, imm, lb⟩ = ((lb == 0) && Rc.regB a && Rc.regB b && Rc.regB c && (a == 0) && (b == 0) && ((c == 0 && sc == 0)) && (k == 0) && (sub == 0) && Rc.smallB imm && decide (0 < imm)) := by
 show (true && (lb == 0) && Rc.regB a && Rc.regB b && Rc.regB c && (false || a == 0) && (false || b == 0) && (false || (c == 0 && sc == 0)) && (false || k == 0) && (false || sub == 0) && (true || imm == 0) && (false || Rc.smallB imm) && decide (0 < imm)) = _
 simp only [Bool.true_and, Bool.and_true, Bool.true_or, Bool.false_or, Bool.and_assoc]
theorem rmay_29 (a b c k sub sc imm lb : Int) (w : World) (h1 : -9223372036854775808 ≤ imm) (h2 : imm ≤ 9223372036854775807) :
  Calls Tryz.prog 69 #[.agg #[.int .i64 29, .int .i64 a, .int .i64 b, .int .i64 c, .int .i64 k, .int .i64 sub, .int .i64 sc, .int .i64 imm, .int .i64 lb]] w fun e w' => e = .returned (.bool (Cc.mayB ⟨29, a, b, c, k, sub, sc, imm, lb⟩)) ∧ w.grownBy w' none := by
 have HM : Hid (Cc.mayB ⟨29, a, b, c, k, sub, sc, imm, lb⟩ = ((lb == 0) && Rc.regB a && Rc.regB b && Rc.regB c && (a == 0) && (b == 0) && ((c == 0 && sc == 0)) && (k == 0) && (sub == 0) && Rc.smallB imm && decide (0 < imm))) := may_29 a b c k sub sc imm lb
 have HR : Hid (∀ W, Calls Tryz.prog 72 #[.int .i64 29] W fun e w' => e = .returned (.string ⟨#[52]⟩) ∧ w' = W) := rrow_any 29
 have UA : Hid (∀ W, Calls Tryz.prog 102 #[.int .i64 29, .int .u8 65] W fun e w' => e = .returned (.bool false) ∧ w' = W) := ruses_any 29 65
 have UB : Hid (∀ W, Calls Tryz.prog 102 #[.int .i64 29, .int .u8 66] W fun e w' => e = .returned (.bool false) ∧ w' = W) := ruses_any 29 66
 have UC : Hid (∀ W, Calls Tryz.prog 102 #[.int .i64 29, .int .u8 67] W fun e w' => e = .returned (.bool false) ∧ w' = W) := ruses_any 29 67
 have UK : Hid (∀ W, Calls Tryz.prog 102 #[.int .i64 29, .int .u8 75] W fun e w' => e = .returned (.bool false) ∧ w' = W) := ruses_any 29 75
 have US : Hid (∀ W, Calls Tryz.prog 102 #[.int .i64 29, .int .u8 83] W fun e w' => e = .returned (.bool false) ∧ w' = W) := ruses_any 29 83
 have UI : Hid (∀ W, Calls Tryz.prog 102 #[.int .i64 29, .int .u8 73] W fun e w' => e = .returned (.bool true) ∧ w' = W) := ruses_any 29 73
 go_enter Tryz.func69, Tryz.ntmps69
 simp only [List.append]
 go_wp2_with (first
  | (go_at_call 72; refine (HR.out _).mono ?_; rintro e w' ⟨rfl, rfl⟩)
  | (go_at_call 95; refine (rreg_any _ _).mono ?_; rintro e w' ⟨rfl, rfl⟩)
  | (go_at_call_of 102 (Value.int .u8 65); refine (UA.out _).mono ?_; rintro e w' ⟨rfl, rfl⟩)
  | (go_at_call_of 102 (Value.int .u8 66); refine (UB.out _).mono ?_; rintro e w' ⟨rfl, rfl⟩)
  | (go_at_call_of 102 (Value.int .u8 67); refine (UC.out _).mono ?_; rintro e w' ⟨rfl, rfl⟩)
  | (go_at_call_of 102 (Value.int .u8 75); refine (UK.out _).mono ?_; rintro e w' ⟨rfl, rfl⟩)
  | (go_at_call_of 102 (Value.int .u8 83); refine (US.out _).mono ?_; rintro e w' ⟨rfl, rfl⟩)
  | (go_at_call_of 102 (Value.int .u8 73); refine (UI.out _).mono ?_; rintro e w' ⟨rfl, rfl⟩)
  | (go_at_call 71; refine (rsmall_any _ _).mono ?_; rintro e w' ⟨rfl, rfl⟩))
 all_goals
  go_ret
  refine ⟨ret_bool ?_, by first | exact gal | exact gtr gal g2⟩
  go_light
  clear HR UA UB UC UK US UI
  rw [HM.out]
  clear HM
  first | (simp [*]; done) | (simp_all; done) | (simp_all; omega)
end Go.Proofs.YtkiockffejlnhaaGreatDoor
