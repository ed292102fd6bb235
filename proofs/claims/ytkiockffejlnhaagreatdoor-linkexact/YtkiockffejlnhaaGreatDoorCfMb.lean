/- gantryref4.May, code by code, on. -/
import Derived.Test.YtkiockffejlnhaaGreatDoorG18
import Derived.Deep.RegionWith
import Derived.BigGuardPart
import Derived.Deep.Light
namespace Go.Proofs.YtkiockffejlnhaaGreatDoor
set_option maxRecDepth 100000
set_option maxHeartbeats 32000000
open Go.RowKit
set_option linter.unusedVariables false
theorem may_13 (a b c k sub sc imm lb : Int) : Cc.mayB ⟨13, a, b, c, k, sub, sc, imm, lb⟩ = ((lb == 0) && Rc.regB a && Rc.regB b && Rc.regB c && ((c == 0 && sc == 0)) && (sub == 0) && Rc.smallB imm && Wd.wordB k) := by
 show (true && (lb == 0) && Rc.regB a && Rc.regB b && Rc.regB c && (true || a == 0) && (true || b == 0) && (false || (c == 0 && sc == 0)) && (true || k == 0) && (false || sub == 0) && (true || imm == 0) && (false || Rc.smallB imm) && Wd.wordB k) = _
 simp only [Bool.true_and, Bool.and_true, Bool.true_or, Bool.false_or, Bool.and_assoc]
theorem rmay_13 (a b c k sub sc imm lb : Int) (w : World) (h1 : -9223372036854775808 ≤ imm) (h2 : imm ≤ 9223372036854775807) :
  Calls Tryz.prog 69 #[.agg #[.int .i64 13, .int .i64 a, .int .i64 b, .int .i64 c, .int .i64 k, .int .i64 sub, .int .i64 sc, .int .i64 imm, .int .i64 lb]] w fun e w' => e = .returned (.bool (Cc.mayB ⟨13, a, b, c, k, sub, sc, imm, lb⟩)) ∧ w.grownBy w' none := by
 have HM : Hid (Cc.mayB ⟨13, a, b, c, k, sub, sc, imm, lb⟩ = ((lb == 0) && Rc.regB a && Rc.regB b && Rc.regB c && ((c == 0 && sc == 0)) && (sub == 0) && Rc.smallB imm && Wd.wordB k)) := may_13 a b c k sub sc imm lb
 have HR : Hid (∀ W, Calls Tryz.prog 72 #[.int .i64 13] W fun e w' => e = .returned (.string ⟨#[97, 75, 52]⟩) ∧ w' = W) := rrow_any 13
 have UA : Hid (∀ W, Calls Tryz.prog 102 #[.int .i64 13, .int .u8 65] W fun e w' => e = .returned (.bool true) ∧ w' = W) := ruses_any 13 65
 have UB : Hid (∀ W, Calls Tryz.prog 102 #[.int .i64 13, .int .u8 66] W fun e w' => e = .returned (.bool true) ∧ w' = W) := ruses_any 13 66
 have UC : Hid (∀ W, Calls Tryz.prog 102 #[.int .i64 13, .int .u8 67] W fun e w' => e = .returned (.bool false) ∧ w' = W) := ruses_any 13 67
 have UK : Hid (∀ W, Calls Tryz.prog 102 #[.int .i64 13, .int .u8 75] W fun e w' => e = .returned (.bool true) ∧ w' = W) := ruses_any 13 75
 have US : Hid (∀ W, Calls Tryz.prog 102 #[.int .i64 13, .int .u8 83] W fun e w' => e = .returned (.bool false) ∧ w' = W) := ruses_any 13 83
 have UI : Hid (∀ W, Calls Tryz.prog 102 #[.int .i64 13, .int .u8 73] W fun e w' => e = .returned (.bool true) ∧ w' = W) := ruses_any 13 73
 go_enter Tryz.func69, Tryz.ntmps69
 simp only [List.append]
 go_wp2_with (first
  | (go_at_call 72; refine (HR.out _).mono ?_; rintro e w' ⟨rfl, rfl⟩)
  | (go_at_call 95; refine (rreg_any _ _).mono ?_; rintro e w' ⟨rfl, rfl⟩)
  | (go_at_call_of 102 (Value.int .u8 65); refine (UA.out _).mono ?_; rintro e w' ⟨rfl, rfl⟩)
  | (go_at_call_of 102 (Value.int .u8 66); refine (UB.out _).mono ?_; rintro e w' ⟨rfl, rfl⟩)
  | (go_at_call_of 102 (Value.int .u8 67); refine (UC.out _).mono ?_; rintro e w' ⟨rfl, rfl⟩)
  | (go_at_call_of 102 (Value.int .u8 75); refine (UK.out _).mono ?_; rintro e w' ⟨rfl, rfl⟩)
  | (go_at_call_of 102 (Value.int .u8 83); refine (US.out _).mono ?_; rintro e w' ⟨rfl, rfl⟩)
  | (go_at_call_of 102 (Value.int .u8 73); refine (UI.out _).mono ?_; rintro e w' ⟨rfl, rfl⟩)
  | (go_at_call 71; refine (rsmall_any _ _).mono ?_; rintro e w' ⟨rfl, rfl⟩)
  | (go_at_call 101; refine (rword_any _ _).mono ?_; rintro e w' ⟨rfl, rfl⟩))
 all_goals
  go_ret
  refine ⟨ret_bool ?_, by first | exact gal | exact gtr gal g2⟩
  go_light
  clear HR UA UB UC UK US UI
  rw [HM.out]
  clear HM
  first | (simp [*]; done) | (simp_all; done) | (simp_all; omega)
theorem may_15 (a b c k sub sc imm lb : Int) : Cc.mayB ⟨15, a, b, c, k, sub, sc, imm, lb⟩ = ((lb == 0) && Rc.regB a && Rc.regB b && Rc.regB c && ((c == 0 && sc == 0)) && (k == 0) && (imm == 0) && Rc.smallB imm && Wd.cmpB sub) := by
 show (true && (lb == 0) && Rc.regB a && Rc.regB b && Rc.regB c && (true || a == 0) && (true || b == 0) && (false || (c == 0 && sc == 0)) && (false || k == 0) && (true || sub == 0) && (false || imm == 0) && (false || Rc.smallB imm) && Wd.cmpB sub) = _
 simp only [Bool.true_and, Bool.and_true, Bool.true_or, Bool.false_or, Bool.and_assoc]
theorem rmay_15 (a b c k sub sc imm lb : Int) (w : World) (h1 : -9223372036854775808 ≤ imm) (h2 : imm ≤ 9223372036854775807) :
  Calls Tryz.prog 69 #[.agg #[.int .i64 15, .int .i64 a, .int .i64 b, .int .i64 c, .int .i64 k, .int .i64 sub, .int .i64 sc, .int .i64 imm, .int .i64 lb]] w fun e w' => e = .returned (.bool (Cc.mayB ⟨15, a, b, c, k, sub, sc, imm, lb⟩)) ∧ w.grownBy w' none := by
 have HM : Hid (Cc.mayB ⟨15, a, b, c, k, sub, sc, imm, lb⟩ = ((lb == 0) && Rc.regB a && Rc.regB b && Rc.regB c && ((c == 0 && sc == 0)) && (k == 0) && (imm == 0) && Rc.smallB imm && Wd.cmpB sub)) := may_15 a b c k sub sc imm lb
 have HR : Hid (∀ W, Calls Tryz.prog 72 #[.int .i64 15] W fun e w' => e = .returned (.string ⟨#[97, 83]⟩) ∧ w' = W) := rrow_any 15
 have UA : Hid (∀ W, Calls Tryz.prog 102 #[.int .i64 15, .int .u8 65] W fun e w' => e = .returned (.bool true) ∧ w' = W) := ruses_any 15 65
 have UB : Hid (∀ W, Calls Tryz.prog 102 #[.int .i64 15, .int .u8 66] W fun e w' => e = .returned (.bool true) ∧ w' = W) := ruses_any 15 66
 have UC : Hid (∀ W, Calls Tryz.prog 102 #[.int .i64 15, .int .u8 67] W fun e w' => e = .returned (.bool false) ∧ w' = W) := ruses_any 15 67
 have UK : Hid (∀ W, Calls Tryz.prog 102 #[.int .i64 15, .int .u8 75] W fun e w' => e = .returned (.bool false) ∧ w' = W) := ruses_any 15 75
 have US : Hid (∀ W, Calls Tryz.prog 102 #[.int .i64 15, .int .u8 83] W fun e w' => e = .returned (.bool true) ∧ w' = W) := ruses_any 15 83
 have UI : Hid (∀ W, Calls Tryz.prog 102 #[.int .i64 15, .int .u8 73] W fun e w' => e = .returned (.bool false) ∧ w' = W) := ruses_any 15 73
 go_enter Tryz.func69, Tryz.ntmps69
 simp only [List.append]
 go_wp2_with (first
  | (go_at_call 72; refine (HR.out _).mono ?_; rintro e w' ⟨rfl, rfl⟩)
  | (go_at_call 95; refine (rreg_any _ _).mono ?_; rintro e w' ⟨rfl, rfl⟩)
  | (go_at_call_of 102 (Value.int .u8 65); refine (UA.out _).mono ?_; rintro e w' ⟨rfl, rfl⟩)
  | (go_at_call_of 102 (Value.int .u8 66); refine (UB.out _).mono ?_; rintro e w' ⟨rfl, rfl⟩)
  | (go_at_call_of 102 (Value.int .u8 67); refine (UC.out _).mono ?_; rintro e w' ⟨rfl, rfl⟩)
  | (go_at_call_of 102 (Value.int .u8 75); refine (UK.out _).mono ?_; rintro e w' ⟨rfl, rfl⟩)
  | (go_at_call_of 102 (Value.int .u8 83); refine (US.out _).mono ?_; rintro e w' ⟨rfl, rfl⟩)
  | (go_at_call_of 102 (Value.int .u8 73); refine (UI.out _).mono ?_; rintro e w' ⟨rfl, rfl⟩)
  | (go_at_call 71; refine (rsmall_any _ _).mono ?_; rintro e w' ⟨rfl, rfl⟩)
  | (go_at_call 108; refine (rcond_any _ _).mono ?_; rintro e w' ⟨rfl, rfl⟩))
 all_goals
  go_ret
  refine ⟨ret_bool ?_, by first | exact gal | exact gtr gal g2⟩
  go_light
  clear HR UA UB UC UK US UI
  rw [HM.out]
  clear HM
  first | (simp [*]; done) | (simp_all; done) | (simp_all; omega)
theorem may_16 (a b c k sub sc imm lb : Int) : Cc.mayB ⟨16, a, b, c, k, sub, sc, imm, lb⟩ = ((lb == 0) && Rc.regB a && Rc.regB b && Rc.regB c && ((c == 0 && sc == 0)) && (sub == 0) && (imm == 0) && Rc.smallB imm && Wd.wordB k) := by
 show (true && (lb == 0) && Rc.regB a && Rc.regB b && Rc.regB c && (true || a == 0) && (true || b == 0) && (false || (c == 0 && sc == 0)) && (true || k == 0) && (false || sub == 0) && (false || imm == 0) && (false || Rc.smallB imm) && Wd.wordB k) = _
 simp only [Bool.true_and, Bool.and_true, Bool.true_or, Bool.false_or, Bool.and_assoc]
theorem rmay_16 (a b c k sub sc imm lb : Int) (w : World) (h1 : -9223372036854775808 ≤ imm) (h2 : imm ≤ 9223372036854775807) :
  Calls Tryz.prog 69 #[.agg #[.int .i64 16, .int .i64 a, .int .i64 b, .int .i64 c, .int .i64 k, .int .i64 sub, .int .i64 sc, .int .i64 imm, .int .i64 lb]] w fun e w' => e = .returned (.bool (Cc.mayB ⟨16, a, b, c, k, sub, sc, imm, lb⟩)) ∧ w.grownBy w' none := by
 have HM : Hid (Cc.mayB ⟨16, a, b, c, k, sub, sc, imm, lb⟩ = ((lb == 0) && Rc.regB a && Rc.regB b && Rc.regB c && ((c == 0 && sc == 0)) && (sub == 0) && (imm == 0) && Rc.smallB imm && Wd.wordB k)) := may_16 a b c k sub sc imm lb
 have HR : Hid (∀ W, Calls Tryz.prog 72 #[.int .i64 16] W fun e w' => e = .returned (.string ⟨#[97, 75]⟩) ∧ w' = W) := rrow_any 16
 have UA : Hid (∀ W, Calls Tryz.prog 102 #[.int .i64 16, .int .u8 65] W fun e w' => e = .returned (.bool true) ∧ w' = W) := ruses_any 16 65
 have UB : Hid (∀ W, Calls Tryz.prog 102 #[.int .i64 16, .int .u8 66] W fun e w' => e = .returned (.bool true) ∧ w' = W) := ruses_any 16 66
 have UC : Hid (∀ W, Calls Tryz.prog 102 #[.int .i64 16, .int .u8 67] W fun e w' => e = .returned (.bool false) ∧ w' = W) := ruses_any 16 67
 have UK : Hid (∀ W, Calls Tryz.prog 102 #[.int .i64 16, .int .u8 75] W fun e w' => e = .returned (.bool true) ∧ w' = W) := ruses_any 16 75
 have US : Hid (∀ W, Calls Tryz.prog 102 #[.int .i64 16, .int .u8 83] W fun e w' => e = .returned (.bool false) ∧ w' = W) := ruses_any 16 83
 have UI : Hid (∀ W, Calls Tryz.prog 102 #[.int .i64 16, .int .u8 73] W fun e w' => e = .returned (.bool false) ∧ w' = W) := ruses_any 16 73
 go_enter Tryz.func69, Tryz.ntmps69
 simp only [List.append]
 go_wp2_with (first
  | (go_at_call 72; refine (HR.out _).mono ?_; rintro e w' ⟨rfl, rfl⟩)
  | (go_at_call 95; refine (rreg_any _ _).mono ?_; rintro e w' ⟨rfl, rfl⟩)
  | (go_at_call_of 102 (Value.int .u8 65); refine (UA.out _).mono ?_; rintro e w' ⟨rfl, rfl⟩)
  | (go_at_call_of 102 (Value.int .u8 66); refine (UB.out _).mono ?_; rintro e w' ⟨rfl, rfl⟩)
  | (go_at_call_of 102 (Value.int .u8 67); refine (UC.out _).mono ?_; rintro e w' ⟨rfl, rfl⟩)
  | (go_at_call_of 102 (Value.int .u8 75); refine (UK.out _).mono ?_; rintro e w' ⟨rfl, rfl⟩)
  | (go_at_call_of 102 (Value.int .u8 83); refine (US.out _).mono ?_; rintro e w' ⟨rfl, rfl⟩)
  | (go_at_call_of 102 (Value.int .u8 73); refine (UI.out _).mono ?_; rintro e w' ⟨rfl, rfl⟩)
  | (go_at_call 71; refine (rsmall_any _ _).mono ?_; rintro e w' ⟨rfl, rfl⟩)
  | (go_at_call 101; refine (rword_any _ _).mono ?_; rintro e w' ⟨rfl, rfl⟩))
 all_goals
  go_ret
  refine ⟨ret_bool ?_, by first | exact gal | exact gtr gal g2⟩
  go_light
  clear HR UA UB UC UK US UI
  rw [HM.out]
  clear HM
  first | (simp [*]; done) | (simp_all; done) | (simp_all; omega)
theorem may_17 (a b c k sub sc imm lb : Int) : Cc.mayB ⟨17, a, b, c, k, sub, sc, imm, lb⟩ = ((lb == 0) && Rc.regB a && Rc.regB b && Rc.regB c && (b == 0) && ((c == 0 && sc == 0)) && (sub == 0) && Rc.smallB imm && Cc.immB 2 k imm) := by
 show (true && (lb == 0) && Rc.regB a && Rc.regB b && Rc.regB c && (true || a == 0) && (false || b == 0) && (false || (c == 0 && sc == 0)) && (true || k == 0) && (false || sub == 0) && (true || imm == 0) && (false || Rc.smallB imm) && Cc.immB 2 k imm) = _
 simp only [Bool.true_and, Bool.and_true, Bool.true_or, Bool.false_or, Bool.and_assoc]
theorem rmay_17 (a b c k sub sc imm lb : Int) (w : World) (h1 : -9223372036854775808 ≤ imm) (h2 : imm ≤ 9223372036854775807) :
  Calls Tryz.prog 69 #[.agg #[.int .i64 17, .int .i64 a, .int .i64 b, .int .i64 c, .int .i64 k, .int .i64 sub, .int .i64 sc, .int .i64 imm, .int .i64 lb]] w fun e w' => e = .returned (.bool (Cc.mayB ⟨17, a, b, c, k, sub, sc, imm, lb⟩)) ∧ w.grownBy w' none := by
 have HM : Hid (Cc.mayB ⟨17, a, b, c, k, sub, sc, imm, lb⟩ = ((lb == 0) && Rc.regB a && Rc.regB b && Rc.regB c && (b == 0) && ((c == 0 && sc == 0)) && (sub == 0) && Rc.smallB imm && Cc.immB 2 k imm)) := may_17 a b c k sub sc imm lb
 have HR : Hid (∀ W, Calls Tryz.prog 72 #[.int .i64 17] W fun e w' => e = .returned (.string ⟨#[110, 75, 105]⟩) ∧ w' = W) := rrow_any 17
 have UA : Hid (∀ W, Calls Tryz.prog 102 #[.int .i64 17, .int .u8 65] W fun e w' => e = .returned (.bool true) ∧ w' = W) := ruses_any 17 65
 have UB : Hid (∀ W, Calls Tryz.prog 102 #[.int .i64 17, .int .u8 66] W fun e w' => e = .returned (.bool false) ∧ w' = W) := ruses_any 17 66
 have UC : Hid (∀ W, Calls Tryz.prog 102 #[.int .i64 17, .int .u8 67] W fun e w' => e = .returned (.bool false) ∧ w' = W) := ruses_any 17 67
 have UK : Hid (∀ W, Calls Tryz.prog 102 #[.int .i64 17, .int .u8 75] W fun e w' => e = .returned (.bool true) ∧ w' = W) := ruses_any 17 75
 have US : Hid (∀ W, Calls Tryz.prog 102 #[.int .i64 17, .int .u8 83] W fun e w' => e = .returned (.bool false) ∧ w' = W) := ruses_any 17 83
 have UI : Hid (∀ W, Calls Tryz.prog 102 #[.int .i64 17, .int .u8 73] W fun e w' => e = .returned (.bool true) ∧ w' = W) := ruses_any 17 73
 go_enter Tryz.func69, Tryz.ntmps69
 simp only [List.append]
 go_wp2_with (first
  | (go_at_call 72; refine (HR.out _).mono ?_; rintro e w' ⟨rfl, rfl⟩)
  | (go_at_call 95; refine (rreg_any _ _).mono ?_; rintro e w' ⟨rfl, rfl⟩)
  | (go_at_call_of 102 (Value.int .u8 65); refine (UA.out _).mono ?_; rintro e w' ⟨rfl, rfl⟩)
  | (go_at_call_of 102 (Value.int .u8 66); refine (UB.out _).mono ?_; rintro e w' ⟨rfl, rfl⟩)
  | (go_at_call_of 102 (Value.int .u8 67); refine (UC.out _).mono ?_; rintro e w' ⟨rfl, rfl⟩)
  | (go_at_call_of 102 (Value.int .u8 75); refine (UK.out _).mono ?_; rintro e w' ⟨rfl, rfl⟩)
  | (go_at_call_of 102 (Value.int .u8 83); refine (US.out _).mono ?_; rintro e w' ⟨rfl, rfl⟩)
  | (go_at_call_of 102 (Value.int .u8 73); refine (UI.out _).mono ?_; rintro e w' ⟨rfl, rfl⟩)
  | (go_at_call 71; refine (rsmall_any _ _).mono ?_; rintro e w' ⟨rfl, rfl⟩)
  | (go_at_call 104; refine (rimm_any _ _ _ _ h1 h2).mono ?_; rintro e w' ⟨rfl, rfl⟩))
 all_goals
  go_ret
  refine ⟨ret_bool ?_, by first | exact gal | exact gtr gal g2⟩
  go_light
  clear HR UA UB UC UK US UI
  rw [HM.out]
  clear HM
  first | (simp [*]; done) | (simp_all; done) | (simp_all; omega)
theorem may_18 (a b c k sub sc imm lb : Int) : Cc.mayB ⟨18, a, b, c, k, sub, sc, imm, lb⟩ = ((lb == 0) && Rc.regB a && Rc.regB b && Rc.regB c && (b == 0) && ((c == 0 && sc == 0)) && (k == 0) && (imm == 0) && Rc.smallB imm && Wd.cmpB sub) := by
 show (true && (lb == 0) && Rc.regB a && Rc.regB b && Rc.regB c && (true || a == 0) && (false || b == 0) && (false || (c == 0 && sc == 0)) && (false || k == 0) && (true || sub == 0) && (false || imm == 0) && (false || Rc.smallB imm) && Wd.cmpB sub) = _
 simp only [Bool.true_and, Bool.and_true, Bool.true_or, Bool.false_or, Bool.and_assoc]
theorem rmay_18 (a b c k sub sc imm lb : Int) (w : World) (h1 : -9223372036854775808 ≤ imm) (h2 : imm ≤ 9223372036854775807) :
  Calls Tryz.prog 69 #[.agg #[.int .i64 18, .int .i64 a, .int .i64 b, .int .i64 c, .int .i64 k, .int .i64 sub, .int .i64 sc, .int .i64 imm, .int .i64 lb]] w fun e w' => e = .returned (.bool (Cc.mayB ⟨18, a, b, c, k, sub, sc, imm, lb⟩)) ∧ w.grownBy w' none := by
 have HM : Hid (Cc.mayB ⟨18, a, b, c, k, sub, sc, imm, lb⟩ = ((lb == 0) && Rc.regB a && Rc.regB b && Rc.regB c && (b == 0) && ((c == 0 && sc == 0)) && (k == 0) && (imm == 0) && Rc.smallB imm && Wd.cmpB sub)) := may_18 a b c k sub sc imm lb
 have HR : Hid (∀ W, Calls Tryz.prog 72 #[.int .i64 18] W fun e w' => e = .returned (.string ⟨#[97, 83]⟩) ∧ w' = W) := rrow_any 18
 have UA : Hid (∀ W, Calls Tryz.prog 102 #[.int .i64 18, .int .u8 65] W fun e w' => e = .returned (.bool true) ∧ w' = W) := ruses_any 18 65
 have UB : Hid (∀ W, Calls Tryz.prog 102 #[.int .i64 18, .int .u8 66] W fun e w' => e = .returned (.bool false) ∧ w' = W) := ruses_any 18 66
 have UC : Hid (∀ W, Calls Tryz.prog 102 #[.int .i64 18, .int .u8 67] W fun e w' => e = .returned (.bool false) ∧ w' = W) := ruses_any 18 67
 have UK : Hid (∀ W, Calls Tryz.prog 102 #[.int .i64 18, .int .u8 75] W fun e w' => e = .returned (.bool false) ∧ w' = W) := ruses_any 18 75
 have US : Hid (∀ W, Calls Tryz.prog 102 #[.int .i64 18, .int .u8 83] W fun e w' => e = .returned (.bool true) ∧ w' = W) := ruses_any 18 83
 have UI : Hid (∀ W, Calls Tryz.prog 102 #[.int .i64 18, .int .u8 73] W fun e w' => e = .returned (.bool false) ∧ w' = W) := ruses_any 18 73
 go_enter Tryz.func69, Tryz.ntmps69
 simp only [List.append]
 go_wp2_with (first
  | (go_at_call 72; refine (HR.out _).mono ?_; rintro e w' ⟨rfl, rfl⟩)
  | (go_at_call 95; refine (rreg_any _ _).mono ?_; rintro e w' ⟨rfl, rfl⟩)
  | (go_at_call_of 102 (Value.int .u8 65); refine (UA.out _).mono ?_; rintro e w' ⟨rfl, rfl⟩)
  | (go_at_call_of 102 (Value.int .u8 66); refine (UB.out _).mono ?_; rintro e w' ⟨rfl, rfl⟩)
  | (go_at_call_of 102 (Value.int .u8 67); refine (UC.out _).mono ?_; rintro e w' ⟨rfl, rfl⟩)
  | (go_at_call_of 102 (Value.int .u8 75); refine (UK.out _).mono ?_; rintro e w' ⟨rfl, rfl⟩)
  | (go_at_call_of 102 (Value.int .u8 83); refine (US.out _).mono ?_; rintro e w' ⟨rfl, rfl⟩)
  | (go_at_call_of 102 (Value.int .u8 73); refine (UI.out _).mono ?_; rintro e w' ⟨rfl, rfl⟩)
  | (go_at_call 71; refine (rsmall_any _ _).mono ?_; rintro e w' ⟨rfl, rfl⟩)
  | (go_at_call 108; refine (rcond_any _ _).mono ?_; rintro e w' ⟨rfl, rfl⟩))
 all_goals
  go_ret
  refine ⟨ret_bool ?_, by first | exact gal | exact gtr gal g2⟩
  go_light
  clear HR UA UB UC UK US UI
  rw [HM.out]
  clear HM
  first | (simp [*]; done) | (simp_all; done) | (simp_all; omega)
theorem may_19 (a b c k sub sc imm lb : Int) : Cc.mayB ⟨19, a, b, c, k, sub, sc, imm, lb⟩ = ((lb == 0) && Rc.regB a && Rc.regB b && Rc.regB c && (a == 0) && (b == 0) && ((c == 0 && sc == 0)) && (k == 0) && (sub == 0) && Rc.smallB imm) := by
 show (true && (lb == 0) && Rc.regB a && Rc.regB b && Rc.regB c && (false || a == 0) && (false || b == 0) && (false || (c == 0 && sc == 0)) && (false || k == 0) && (false || sub == 0) && (true || imm == 0) && (false || Rc.smallB imm) && true) = _
 simp only [Bool.true_and, Bool.and_true, Bool.true_or, Bool.false_or, Bool.and_assoc]
theorem rmay_19 (a b c k sub sc imm lb : Int) (w : World) (h1 : -9223372036854775808 ≤ imm) (h2 : imm ≤ 9223372036854775807) :
  Calls Tryz.prog 69 #[.agg #[.int .i64 19, .int .i64 a, .int .i64 b, .int .i64 c, .int .i64 k, .int .i64 sub, .int .i64 sc, .int .i64 imm, .int .i64 lb]] w fun e w' => e = .returned (.bool (Cc.mayB ⟨19, a, b, c, k, sub, sc, imm, lb⟩)) ∧ w.grownBy w' none := by
 have HM : Hid (Cc.mayB ⟨19, a, b, c, k, sub, sc, imm, lb⟩ = ((lb == 0) && Rc.regB a && Rc.regB b && Rc.regB c && (a == 0) && (b == 0) && ((c == 0 && sc == 0)) && (k == 0) && (sub == 0) && Rc.smallB imm)) := may_19 a b c k sub sc imm lb
 have HR : Hid (∀ W, Calls Tryz.prog 72 #[.int .i64 19] W fun e w' => e = .returned (.string ⟨#[106, 105]⟩) ∧ w' = W) := rrow_any 19
 have UA : Hid (∀ W, Calls Tryz.prog 102 #[.int .i64 19, .int .u8 65] W fun e w' => e = .returned (.bool false) ∧ w' = W) := ruses_any 19 65
 have UB : Hid (∀ W, Calls Tryz.prog 102 #[.int .i64 19, .int .u8 66] W fun e w' => e = .returned (.bool false) ∧ w' = W) := ruses_any 19 66
 have UC : Hid (∀ W, Calls Tryz.prog 102 #[.int .i64 19, .int .u8 67] W fun e w' => e = .returned (.bool false) ∧ w' = W) := ruses_any 19 67
 have UK : Hid (∀ W, Calls Tryz.prog 102 #[.int .i64 19, .int .u8 75] W fun e w' => e = .returned (.bool false) ∧ w' = W) := ruses_any 19 75
 have US : Hid (∀ W, Calls Tryz.prog 102 #[.int .i64 19, .int .u8 83] W fun e w' => e = .returned (.bool false) ∧ w' = W) := ruses_any 19 83
 have UI : Hid (∀ W, Calls Tryz.prog 102 #[.int .i64 19, .int .u8 73] W fun e w' => e = .returned (.bool true) ∧ w' = W) := ruses_any 19 73
 go_enter Tryz.func69, Tryz.ntmps69
 simp only [List.append]
 go_wp2_with (first
  | (go_at_call 72; refine (HR.out _).mono ?_; rintro e w' ⟨rfl, rfl⟩)
  | (go_at_call 95; refine (rreg_any _ _).mono ?_; rintro e w' ⟨rfl, rfl⟩)
  | (go_at_call_of 102 (Value.int .u8 65); refine (UA.out _).mono ?_; rintro e w' ⟨rfl, rfl⟩)
  | (go_at_call_of 102 (Value.int .u8 66); refine (UB.out _).mono ?_; rintro e w' ⟨rfl, rfl⟩)
  | (go_at_call_of 102 (Value.int .u8 67); refine (UC.out _).mono ?_; rintro e w' ⟨rfl, rfl⟩)
  | (go_at_call_of 102 (Value.int .u8 75); refine (UK.out _).mono ?_; rintro e w' ⟨rfl, rfl⟩)
  | (go_at_call_of 102 (Value.int .u8 83); refine (US.out _).mono ?_; rintro e w' ⟨rfl, rfl⟩)
  | (go_at_call_of 102 (Value.int .u8 73); refine (UI.out _).mono ?_; rintro e w' ⟨rfl, rfl⟩)
  | (go_at_call 71; refine (rsmall_any _ _).mono ?_; rintro e w' ⟨rfl, rfl⟩))
 all_goals
  go_ret
  refine ⟨ret_bool ?_, by first | exact gal | exact gtr gal g2⟩
  go_light
  clear HR UA UB UC UK US UI
  rw [HM.out]
  clear HM
  first | (simp [*]; done) | (simp_all; done) | (simp_all; omega)
theorem may_22 (a b c k sub sc imm lb : Int) : Cc.mayB ⟨22, a, b, c, k, sub, sc, imm, lb⟩ = ((lb == 0) && Rc.regB a && Rc.regB b && Rc.regB c && (a == 0) && (b == 0) && ((c == 0 && sc == 0)) && (k == 0) && Rc.smallB imm && Wd.cmpB sub) := by
 show (true && (lb == 0) && Rc.regB a && Rc.regB b && Rc.regB c && (false || a == 0) && (false || b == 0) && (false || (c == 0 && sc == 0)) && (false || k == 0) && (true || sub == 0) && (true || imm == 0) && (false || Rc.smallB imm) && Wd.cmpB sub) = _
 simp only [Bool.true_and, Bool.and_true, Bool.true_or, Bool.false_or, Bool.and_assoc]
theorem rmay_22 (a b c k sub sc imm lb : Int) (w : World) (h1 : -9223372036854775808 ≤ imm) (h2 : imm ≤ 9223372036854775807) :
  Calls Tryz.prog 69 #[.agg #[.int .i64 22, .int .i64 a, .int .i64 b, .int .i64 c, .int .i64 k, .int .i64 sub, .int .i64 sc, .int .i64 imm, .int .i64 lb]] w fun e w' => e = .returned (.bool (Cc.mayB ⟨22, a, b, c, k, sub, sc, imm, lb⟩)) ∧ w.grownBy w' none := by
 have HM : Hid (Cc.mayB ⟨22, a, b, c, k, sub, sc, imm, lb⟩ = ((lb == 0) && Rc.regB a && Rc.regB b && Rc.regB c && (a == 0) && (b == 0) && ((c == 0 && sc == 0)) && (k == 0) && Rc.smallB imm && Wd.cmpB sub)) := may_22 a b c k sub sc imm lb
 have HR : Hid (∀ W, Calls Tryz.prog 72 #[.int .i64 22] W fun e w' => e = .returned (.string ⟨#[74, 105]⟩) ∧ w' = W) := rrow_any 22
 have UA : Hid (∀ W, Calls Tryz.prog 102 #[.int .i64 22, .int .u8 65] W fun e w' => e = .returned (.bool false) ∧ w' = W) := ruses_any 22 65
 have UB : Hid (∀ W, Calls Tryz.prog 102 #[.int .i64 22, .int .u8 66] W fun e w' => e = .returned (.bool false) ∧ w' = W) := ruses_any 22 66
 have UC : Hid (∀ W, Calls Tryz.prog 102 #[.int .i64 22, .int .u8 67] W fun e w' => e = .returned (.bool false) ∧ w' = W) := ruses_any 22 67
 have UK : Hid (∀ W, Calls Tryz.prog 102 #[.int .i64 22, .int .u8 75] W fun e w' => e = .returned (.bool false) ∧ w' = W) := ruses_any 22 75
 have US : Hid (∀ W, Calls Tryz.prog 102 #[.int .i64 22, .int .u8 83] W fun e w' => e = .returned (.bool true) ∧ w' = W) := ruses_any 22 83
 have UI : Hid (∀ W, Calls Tryz.prog 102 #[.int .i64 22, .int .u8 73] W fun e w' => e = .returned (.bool true) ∧ w' = W) := ruses_any 22 73
 go_enter Tryz.func69, Tryz.ntmps69
 simp only [List.append]
 go_wp2_with (first
  | (go_at_call 72; refine (HR.out _).mono ?_; rintro e w' ⟨rfl, rfl⟩)
  | (go_at_call 95; refine (rreg_any _ _).mono ?_; rintro e w' ⟨rfl, rfl⟩)
  | (go_at_call_of 102 (Value.int .u8 65); refine (UA.out _).mono ?_; rintro e w' ⟨rfl, rfl⟩)
  | (go_at_call_of 102 (Value.int .u8 66); refine (UB.out _).mono ?_; rintro e w' ⟨rfl, rfl⟩)
  | (go_at_call_of 102 (Value.int .u8 67); refine (UC.out _).mono ?_; rintro e w' ⟨rfl, rfl⟩)
  | (go_at_call_of 102 (Value.int .u8 75); refine (UK.out _).mono ?_; rintro e w' ⟨rfl, rfl⟩)
  | (go_at_call_of 102 (Value.int .u8 83); refine (US.out _).mono ?_; rintro e w' ⟨rfl, rfl⟩)
  | (go_at_call_of 102 (Value.int .u8 73); refine (UI.out _).mono ?_; rintro e w' ⟨rfl, rfl⟩)
  | (go_at_call 71; refine (rsmall_any _ _).mono ?_; rintro e w' ⟨rfl, rfl⟩)
  | (go_at_call 108; refine (rcond_any _ _).mono ?_; rintro e w' ⟨rfl, rfl⟩))
 all_goals
  go_ret
  refine ⟨ret_bool ?_, by first | exact gal | exact gtr gal g2⟩
  go_light
  clear HR UA UB UC UK US UI
  rw [HM.out]
  clear HM
  first | (simp [*]; done) | (simp_all; done) | (simp_all; omega)
end Go.Proofs.YtkiockffejlnhaaGreatDoor
