/- gantryref4.May, code by code. -/
import Derived.Test.YtkiockffejlnhaaGreatDoorG18
import Derived.Deep.RegionWith
import Derived.BigGuardPart
import Derived.Deep.Light
namespace Go.Proofs.YtkiockffejlnhaaGreatDoor
set_option maxRecDepth 100000
set_option maxHeartbeats 32000000
open Go.RowKit
set_option linter.unusedVariables false
theorem may_1 (a b c k sub sc imm lb : Int) : Cc.mayB ⟨1, a, b, c, k, sub, sc, imm, lb⟩ = ((lb == 0) && Rc.regB a && Rc.regB b && Rc.regB c && (b == 0) && ((c == 0 && sc == 0)) && (k == 0) && (sub == 0)) := by
 show (true && (lb == 0) && Rc.regB a && Rc.regB b && Rc.regB c && (true || a == 0) && (false || b == 0) && (false || (c == 0 && sc == 0)) && (false || k == 0) && (false || sub == 0) && (true || imm == 0) && (true || Rc.smallB imm) && true) = _
 simp only [Bool.true_and, Bool.and_true, Bool.true_or, Bool.false_or, Bool.and_assoc]
theorem rmay_1 (a b c k sub sc imm lb : Int) (w : World) (h1 : -9223372036854775808 ≤ imm) (h2 : imm ≤ 9223372036854775807) :
  Calls Tryz.prog 69 #[.agg #[.int .i64 1, .int .i64 a, .int .i64 b, .int .i64 c, .int .i64 k, .int .i64 sub, .int .i64 sc, .int .i64 imm, .int .i64 lb]] w fun e w' => e = .returned (.bool (Cc.mayB ⟨1, a, b, c, k, sub, sc, imm, lb⟩)) ∧ w.grownBy w' none := by
 have HM : Hid (Cc.mayB ⟨1, a, b, c, k, sub, sc, imm, lb⟩ = ((lb == 0) && Rc.regB a && Rc.regB b && Rc.regB c && (b == 0) && ((c == 0 && sc == 0)) && (k == 0) && (sub == 0))) := may_1 a b c k sub sc imm lb
 have HR : Hid (∀ W, Calls Tryz.prog 72 #[.int .i64 1] W fun e w' => e = .returned (.string ⟨#[110, 105]⟩) ∧ w' = W) := rrow_any 1
 have UA : Hid (∀ W, Calls Tryz.prog 102 #[.int .i64 1, .int .u8 65] W fun e w' => e = .returned (.bool true) ∧ w' = W) := ruses_any 1 65
 have UB : Hid (∀ W, Calls Tryz.prog 102 #[.int .i64 1, .int .u8 66] W fun e w' => e = .returned (.bool false) ∧ w' = W) := ruses_any 1 66
 have UC : Hid (∀ W, Calls Tryz.prog 102 #[.int .i64 1, .int .u8 67] W fun e w' => e = .returned (.bool false) ∧ w' = W) := ruses_any 1 67
 have UK : Hid (∀ W, Calls Tryz.prog 102 #[.int .i64 1, .int .u8 75] W fun e w' => e = .returned (.bool false) ∧ w' = W) := ruses_any 1 75
 have US : Hid (∀ W, Calls Tryz.prog 102 #[.int .i64 1, .int .u8 83] W fun e w' => e = .returned (.bool false) ∧ w' = W) := ruses_any 1 83
 have UI : Hid (∀ W, Calls Tryz.prog 102 #[.int .i64 1, .int .u8 73] W fun e w' => e = .returned (.bool true) ∧ w' = W) := ruses_any 1 73
 go_enter Tryz.func69, Tryz.ntmps69
 simp only [List.append]
 go_wp2_with (first
  | (go_at_call 72; refine (HR.out _).mono ?_; rintro e w' ⟨rfl, rfl⟩)
  | (go_at_call 95; refine (rreg_any _ _).mono ?_; rintro e w' ⟨rfl, rfl⟩)
  | (go_at_call_of 102 (Value.int .u8 65); refine (UA.out _).mono ?_; rintro e w' ⟨rfl, rfl⟩)
  | (go_at_call_of 102 (Value.int .u8 66); refine (UB.out _).mono ?_; rintro e w' ⟨rfl, rfl⟩)
  | (go_at_call_of 102 (Value.int .u8 67); refine (UC.out _).mono ?_; rintro e w' ⟨rfl, rfl⟩)
  | (go_at_call_of 102 (Value.int .u8 75); refine (UK.out _).mono ?_; rintro e w' ⟨rfl, rfl⟩)
  | (go_at_call_of 102 (Value.int .u8 83); refine (US.out _).mono ?_; rintro e w' ⟨rfl, rfl⟩)
  | (go_at_call_of 102 (Value.int .u8 73); refine (UI.out _).mono ?_; rintro e w' ⟨rfl, rfl⟩)
  | (go_at_call 71; refine (rsmall_any _ _).mono ?_; rintro e w' ⟨rfl, rfl⟩))
 all_goals
  go_ret
  refine ⟨ret_bool ?_, by first | exact gal | exact gtr gal g2⟩
  go_light
  clear HR UA UB UC UK US UI
  rw [HM.out]
  clear HM
  first | (simp [*]; done) | (simp_all; done) | (simp_all; omega)
theorem may_3 (a b c k sub sc imm lb : Int) : Cc.mayB ⟨3, a, b, c, k, sub, sc, imm, lb⟩ = ((lb == 0) && Rc.regB a && Rc.regB b && Rc.regB c && ((c == 0 && sc == 0)) && (k == 0) && (sub == 0) && (imm == 0) && Rc.smallB imm) := by
 show (true && (lb == 0) && Rc.regB a && Rc.regB b && Rc.regB c && (true || a == 0) && (true || b == 0) && (false || (c == 0 && sc == 0)) && (false || k == 0) && (false || sub == 0) && (false || imm == 0) && (false || Rc.smallB imm) && true) = _
 simp only [Bool.true_and, Bool.and_true, Bool.true_or, Bool.false_or, Bool.and_assoc]
theorem rmay_3 (a b c k sub sc imm lb : Int) (w : World) (h1 : -9223372036854775808 ≤ imm) (h2 : imm ≤ 9223372036854775807) :
  Calls Tryz.prog 69 #[.agg #[.int .i64 3, .int .i64 a, .int .i64 b, .int .i64 c, .int .i64 k, .int .i64 sub, .int .i64 sc, .int .i64 imm, .int .i64 lb]] w fun e w' => e = .returned (.bool (Cc.mayB ⟨3, a, b, c, k, sub, sc, imm, lb⟩)) ∧ w.grownBy w' none := by
 have HM : Hid (Cc.mayB ⟨3, a, b, c, k, sub, sc, imm, lb⟩ = ((lb == 0) && Rc.regB a && Rc.regB b && Rc.regB c && ((c == 0 && sc == 0)) && (k == 0) && (sub == 0) && (imm == 0) && Rc.smallB imm)) := may_3 a b c k sub sc imm lb
 have HR : Hid (∀ W, Calls Tryz.prog 72 #[.int .i64 3] W fun e w' => e = .returned (.string ⟨#[97]⟩) ∧ w' = W) := rrow_any 3
 have UA : Hid (∀ W, Calls Tryz.prog 102 #[.int .i64 3, .int .u8 65] W fun e w' => e = .returned (.bool true) ∧ w' = W) := ruses_any 3 65
 have UB : Hid (∀ W, Calls Tryz.prog 102 #[.int .i64 3, .int .u8 66] W fun e w' => e = .returned (.bool true) ∧ w' = W) := ruses_any 3 66
 have UC : Hid (∀ W, Calls Tryz.prog 102 #[.int .i64 3, .int .u8 67] W fun e w' => e = .returned (.bool false) ∧ w' = W) := ruses_any 3 67
 have UK : Hid (∀ W, Calls Tryz.prog 102 #[.int .i64 3, .int .u8 75] W fun e w' => e = .returned (.bool false) ∧ w' = W) := ruses_any 3 75
 have US : Hid (∀ W, Calls Tryz.prog 102 #[.int .i64 3, .int .u8 83] W fun e w' => e = .returned (.bool false) ∧ w' = W) := ruses_any 3 83
 have UI : Hid (∀ W, Calls Tryz.prog 102 #[.int .i64 3, .int .u8 73] W fun e w' => e = .returned (.bool false) ∧ w' = W) := ruses_any 3 73
 go_enter Tryz.func69, Tryz.ntmps69
 simp only [List.append]
 go_wp2_with (first
  | (go_at_call 72; refine (HR.out _).mono ?_; rintro e w' ⟨rfl, rfl⟩)
  | (go_at_call 95; refine (rreg_any _ _).mono ?_; rintro e w' ⟨rfl, rfl⟩)
  | (go_at_call_of 102 (Value.int .u8 65); refine (UA.out _).mono ?_; rintro e w' ⟨rfl, rfl⟩)
  | (go_at_call_of 102 (Value.int .u8 66); refine (UB.out _).mono ?_; rintro e w' ⟨rfl, rfl⟩)
  | (go_at_call_of 102 (Value.int .u8 67); refine (UC.out _).mono ?_; rintro e w' ⟨rfl, rfl⟩)
  | (go_at_call_of 102 (Value.int .u8 75); refine (UK.out _).mono ?_; rintro e w' ⟨rfl, rfl⟩)
  | (go_at_call_of 102 (Value.int .u8 83); refine (US.out _).mono ?_; rintro e w' ⟨rfl, rfl⟩)
  | (go_at_call_of 102 (Value.int .u8 73); refine (UI.out _).mono ?_; rintro e w' ⟨rfl, rfl⟩)
  | (go_at_call 71; refine (rsmall_any _ _).mono ?_; rintro e w' ⟨rfl, rfl⟩))
 all_goals
  go_ret
  refine ⟨ret_bool ?_, by first | exact gal | exact gtr gal g2⟩
  go_light
  clear HR UA UB UC UK US UI
  rw [HM.out]
  clear HM
  first | (simp [*]; done) | (simp_all; done) | (simp_all; omega)
theorem may_5 (a b c k sub sc imm lb : Int) : Cc.mayB ⟨5, a, b, c, k, sub, sc, imm, lb⟩ = ((lb == 0) && Rc.regB a && Rc.regB b && Rc.regB c && (b == 0) && ((c == 0 && sc == 0)) && Rc.smallB imm && Cc.immB sub k imm) := by
 show (true && (lb == 0) && Rc.regB a && Rc.regB b && Rc.regB c && (true || a == 0) && (false || b == 0) && (false || (c == 0 && sc == 0)) && (true || k == 0) && (true || sub == 0) && (true || imm == 0) && (false || Rc.smallB imm) && Cc.immB sub k imm) = _
 simp only [Bool.true_and, Bool.and_true, Bool.true_or, Bool.false_or, Bool.and_assoc]
theorem rmay_5 (a b c k sub sc imm lb : Int) (w : World) (h1 : -9223372036854775808 ≤ imm) (h2 : imm ≤ 9223372036854775807) :
  Calls Tryz.prog 69 #[.agg #[.int .i64 5, .int .i64 a, .int .i64 b, .int .i64 c, .int .i64 k, .int .i64 sub, .int .i64 sc, .int .i64 imm, .int .i64 lb]] w fun e w' => e = .returned (.bool (Cc.mayB ⟨5, a, b, c, k, sub, sc, imm, lb⟩)) ∧ w.grownBy w' none := by
 have HM : Hid (Cc.mayB ⟨5, a, b, c, k, sub, sc, imm, lb⟩ = ((lb == 0) && Rc.regB a && Rc.regB b && Rc.regB c && (b == 0) && ((c == 0 && sc == 0)) && Rc.smallB imm && Cc.immB sub k imm)) := may_5 a b c k sub sc imm lb
 have HR : Hid (∀ W, Calls Tryz.prog 72 #[.int .i64 5] W fun e w' => e = .returned (.string ⟨#[110, 75, 83, 105]⟩) ∧ w' = W) := rrow_any 5
 have UA : Hid (∀ W, Calls Tryz.prog 102 #[.int .i64 5, .int .u8 65] W fun e w' => e = .returned (.bool true) ∧ w' = W) := ruses_any 5 65
 have UB : Hid (∀ W, Calls Tryz.prog 102 #[.int .i64 5, .int .u8 66] W fun e w' => e = .returned (.bool false) ∧ w' = W) := ruses_any 5 66
 have UC : Hid (∀ W, Calls Tryz.prog 102 #[.int .i64 5, .int .u8 67] W fun e w' => e = .returned (.bool false) ∧ w' = W) := ruses_any 5 67
 have UK : Hid (∀ W, Calls Tryz.prog 102 #[.int .i64 5, .int .u8 75] W fun e w' => e = .returned (.bool true) ∧ w' = W) := ruses_any 5 75
 have US : Hid (∀ W, Calls Tryz.prog 102 #[.int .i64 5, .int .u8 83] W fun e w' => e = .returned (.bool true) ∧ w' = W) := ruses_any 5 83
 have UI : Hid (∀ W, Calls Tryz.prog 102 #[.int .i64 5, .int .u8 73] W fun e w' => e = .returned (.bool true) ∧ w' = W) := ruses_any 5 73
 go_enter Tryz.func69, Tryz.ntmps69
 simp only [List.append]
 go_wp2_with (first
  | (go_at_call 72; refine (HR.out _).mono ?_; rintro e w' ⟨rfl, rfl⟩)
  | (go_at_call 95; refine (rreg_any _ _).mono ?_; rintro e w' ⟨rfl, rfl⟩)
  | (go_at_call_of 102 (Value.int .u8 65); refine (UA.out _).mono ?_; rintro e w' ⟨rfl, rfl⟩)
  | (go_at_call_of 102 (Value.int .u8 66); refine (UB.out _).mono ?_; rintro e w' ⟨rfl, rfl⟩)
  | (go_at_call_of 102 (Value.int .u8 67); refine (UC.out _).mono ?_; rintro e w' ⟨rfl, rfl⟩)
  | (go_at_call_of 102 (Value.int .u8 75); refine (UK.out _).mono ?_; rintro e w' ⟨rfl, rfl⟩)
  | (go_at_call_of 102 (Value.int .u8 83); refine (US.out _).mono ?_; rintro e w' ⟨rfl, rfl⟩)
  | (go_at_call_of 102 (Value.int .u8 73); refine (UI.out _).mono ?_; rintro e w' ⟨rfl, rfl⟩)
  | (go_at_call 71; refine (rsmall_any _ _).mono ?_; rintro e w' ⟨rfl, rfl⟩)
  | (go_at_call 104; refine (rimm_any _ _ _ _ h1 h2).mono ?_; rintro e w' ⟨rfl, rfl⟩))
 all_goals
  go_ret
  refine ⟨ret_bool ?_, by first | exact gal | exact gtr gal g2⟩
  go_light
  clear HR UA UB UC UK US UI
  rw [HM.out]
  clear HM
  first | (simp [*]; done) | (simp_all; done) | (simp_all; omega)
theorem may_6 (a b c k sub sc imm lb : Int) : Cc.mayB ⟨6, a, b, c, k, sub, sc, imm, lb⟩ = ((lb == 0) && Rc.regB a && Rc.regB b && Rc.regB c && ((c == 0 && sc == 0)) && Rc.smallB imm && (Wd.hasBinB sub k && !Wd.shB sub && (!Wd.intB k || (sub != 4 && sub != 5)))) := by
 show (true && (lb == 0) && Rc.regB a && Rc.regB b && Rc.regB c && (true || a == 0) && (true || b == 0) && (false || (c == 0 && sc == 0)) && (true || k == 0) && (true || sub == 0) && (true || imm == 0) && (false || Rc.smallB imm) && (Wd.hasBinB sub k && !Wd.shB sub && (!Wd.intB k || (sub != 4 && sub != 5)))) = _
 simp only [Bool.true_and, Bool.and_true, Bool.true_or, Bool.false_or, Bool.and_assoc]
theorem rmay_6 (a b c k sub sc imm lb : Int) (w : World) (h1 : -9223372036854775808 ≤ imm) (h2 : imm ≤ 9223372036854775807) :
  Calls Tryz.prog 69 #[.agg #[.int .i64 6, .int .i64 a, .int .i64 b, .int .i64 c, .int .i64 k, .int .i64 sub, .int .i64 sc, .int .i64 imm, .int .i64 lb]] w fun e w' => e = .returned (.bool (Cc.mayB ⟨6, a, b, c, k, sub, sc, imm, lb⟩)) ∧ w.grownBy w' none := by
 have HM : Hid (Cc.mayB ⟨6, a, b, c, k, sub, sc, imm, lb⟩ = ((lb == 0) && Rc.regB a && Rc.regB b && Rc.regB c && ((c == 0 && sc == 0)) && Rc.smallB imm && (Wd.hasBinB sub k && !Wd.shB sub && (!Wd.intB k || (sub != 4 && sub != 5))))) := may_6 a b c k sub sc imm lb
 have HR : Hid (∀ W, Calls Tryz.prog 72 #[.int .i64 6] W fun e w' => e = .returned (.string ⟨#[97, 75, 83, 52]⟩) ∧ w' = W) := rrow_any 6
 have UA : Hid (∀ W, Calls Tryz.prog 102 #[.int .i64 6, .int .u8 65] W fun e w' => e = .returned (.bool true) ∧ w' = W) := ruses_any 6 65
 have UB : Hid (∀ W, Calls Tryz.prog 102 #[.int .i64 6, .int .u8 66] W fun e w' => e = .returned (.bool true) ∧ w' = W) := ruses_any 6 66
 have UC : Hid (∀ W, Calls Tryz.prog 102 #[.int .i64 6, .int .u8 67] W fun e w' => e = .returned (.bool false) ∧ w' = W) := ruses_any 6 67
 have UK : Hid (∀ W, Calls Tryz.prog 102 #[.int .i64 6, .int .u8 75] W fun e w' => e = .returned (.bool true) ∧ w' = W) := ruses_any 6 75
 have US : Hid (∀ W, Calls Tryz.prog 102 #[.int .i64 6, .int .u8 83] W fun e w' => e = .returned (.bool true) ∧ w' = W) := ruses_any 6 83
 have UI : Hid (∀ W, Calls Tryz.prog 102 #[.int .i64 6, .int .u8 73] W fun e w' => e = .returned (.bool true) ∧ w' = W) := ruses_any 6 73
 go_enter Tryz.func69, Tryz.ntmps69
 simp only [List.append]
 go_wp2_with (first
  | (go_at_call 72; refine (HR.out _).mono ?_; rintro e w' ⟨rfl, rfl⟩)
  | (go_at_call 95; refine (rreg_any _ _).mono ?_; rintro e w' ⟨rfl, rfl⟩)
  | (go_at_call_of 102 (Value.int .u8 65); refine (UA.out _).mono ?_; rintro e w' ⟨rfl, rfl⟩)
  | (go_at_call_of 102 (Value.int .u8 66); refine (UB.out _).mono ?_; rintro e w' ⟨rfl, rfl⟩)
  | (go_at_call_of 102 (Value.int .u8 67); refine (UC.out _).mono ?_; rintro e w' ⟨rfl, rfl⟩)
  | (go_at_call_of 102 (Value.int .u8 75); refine (UK.out _).mono ?_; rintro e w' ⟨rfl, rfl⟩)
  | (go_at_call_of 102 (Value.int .u8 83); refine (US.out _).mono ?_; rintro e w' ⟨rfl, rfl⟩)
  | (go_at_call_of 102 (Value.int .u8 73); refine (UI.out _).mono ?_; rintro e w' ⟨rfl, rfl⟩)
  | (go_at_call 71; refine (rsmall_any _ _).mono ?_; rintro e w' ⟨rfl, rfl⟩)
  | (go_at_call 98; refine (rhasBin_any _ _ _).mono ?_; rintro e w' ⟨rfl, rfl⟩)
  | (go_at_call 105; refine (rshift_any _ _).mono ?_; rintro e w' ⟨rfl, rfl⟩)
  | (go_at_call 106; refine (rint_any _ _).mono ?_; rintro e w' ⟨rfl, rfl⟩))
 all_goals
  go_ret
  refine ⟨ret_bool ?_, by first | exact gal | exact gtr gal g2⟩
  go_light
  clear HR UA UB UC UK US UI
  rw [HM.out]
  clear HM
  first | (simp [*]; done) | (simp_all; done) | (simp_all; omega)
theorem may_7 (a b c k sub sc imm lb : Int) : Cc.mayB ⟨7, a, b, c, k, sub, sc, imm, lb⟩ = ((lb == 0) && Rc.regB a && Rc.regB b && Rc.regB c && (b == 0) && ((c == 0 && sc == 0)) && (imm == 0) && Rc.smallB imm && Wd.hasUnB sub k) := by
 show (true && (lb == 0) && Rc.regB a && Rc.regB b && Rc.regB c && (true || a == 0) && (false || b == 0) && (false || (c == 0 && sc == 0)) && (true || k == 0) && (true || sub == 0) && (false || imm == 0) && (false || Rc.smallB imm) && Wd.hasUnB sub k) = _
 simp only [Bool.true_and, Bool.and_true, Bool.true_or, Bool.false_or, Bool.and_assoc]
theorem rmay_7 (a b c k sub sc imm lb : Int) (w : World) (h1 : -9223372036854775808 ≤ imm) (h2 : imm ≤ 9223372036854775807) :
  Calls Tryz.prog 69 #[.agg #[.int .i64 7, .int .i64 a, .int .i64 b, .int .i64 c, .int .i64 k, .int .i64 sub, .int .i64 sc, .int .i64 imm, .int .i64 lb]] w fun e w' => e = .returned (.bool (Cc.mayB ⟨7, a, b, c, k, sub, sc, imm, lb⟩)) ∧ w.grownBy w' none := by
 have HM : Hid (Cc.mayB ⟨7, a, b, c, k, sub, sc, imm, lb⟩ = ((lb == 0) && Rc.regB a && Rc.regB b && Rc.regB c && (b == 0) && ((c == 0 && sc == 0)) && (imm == 0) && Rc.smallB imm && Wd.hasUnB sub k)) := may_7 a b c k sub sc imm lb
 have HR : Hid (∀ W, Calls Tryz.prog 72 #[.int .i64 7] W fun e w' => e = .returned (.string ⟨#[97, 75, 83]⟩) ∧ w' = W) := rrow_any 7
 have UA : Hid (∀ W, Calls Tryz.prog 102 #[.int .i64 7, .int .u8 65] W fun e w' => e = .returned (.bool true) ∧ w' = W) := ruses_any 7 65
 have UB : Hid (∀ W, Calls Tryz.prog 102 #[.int .i64 7, .int .u8 66] W fun e w' => e = .returned (.bool false) ∧ w' = W) := ruses_any 7 66
 have UC : Hid (∀ W, Calls Tryz.prog 102 #[.int .i64 7, .int .u8 67] W fun e w' => e = .returned (.bool false) ∧ w' = W) := ruses_any 7 67
 have UK : Hid (∀ W, Calls Tryz.prog 102 #[.int .i64 7, .int .u8 75] W fun e w' => e = .returned (.bool true) ∧ w' = W) := ruses_any 7 75
 have US : Hid (∀ W, Calls Tryz.prog 102 #[.int .i64 7, .int .u8 83] W fun e w' => e = .returned (.bool true) ∧ w' = W) := ruses_any 7 83
 have UI : Hid (∀ W, Calls Tryz.prog 102 #[.int .i64 7, .int .u8 73] W fun e w' => e = .returned (.bool false) ∧ w' = W) := ruses_any 7 73
 go_enter Tryz.func69, Tryz.ntmps69
 simp only [List.append]
 go_wp2_with (first
  | (go_at_call 72; refine (HR.out _).mono ?_; rintro e w' ⟨rfl, rfl⟩)
  | (go_at_call 95; refine (rreg_any _ _).mono ?_; rintro e w' ⟨rfl, rfl⟩)
  | (go_at_call_of 102 (Value.int .u8 65); refine (UA.out _).mono ?_; rintro e w' ⟨rfl, rfl⟩)
  | (go_at_call_of 102 (Value.int .u8 66); refine (UB.out _).mono ?_; rintro e w' ⟨rfl, rfl⟩)
  | (go_at_call_of 102 (Value.int .u8 67); refine (UC.out _).mono ?_; rintro e w' ⟨rfl, rfl⟩)
  | (go_at_call_of 102 (Value.int .u8 75); refine (UK.out _).mono ?_; rintro e w' ⟨rfl, rfl⟩)
  | (go_at_call_of 102 (Value.int .u8 83); refine (US.out _).mono ?_; rintro e w' ⟨rfl, rfl⟩)
  | (go_at_call_of 102 (Value.int .u8 73); refine (UI.out _).mono ?_; rintro e w' ⟨rfl, rfl⟩)
  | (go_at_call 71; refine (rsmall_any _ _).mono ?_; rintro e w' ⟨rfl, rfl⟩)
  | (go_at_call 99; refine (rhasUn_any _ _ _).mono ?_; rintro e w' ⟨rfl, rfl⟩))
 all_goals
  go_ret
  refine ⟨ret_bool ?_, by first | exact gal | exact gtr gal g2⟩
  go_light
  clear HR UA UB UC UK US UI
  rw [HM.out]
  clear HM
  first | (simp [*]; done) | (simp_all; done) | (simp_all; omega)
theorem may_8 (a b c k sub sc imm lb : Int) : Cc.mayB ⟨8, a, b, c, k, sub, sc, imm, lb⟩ = ((lb == 0) && Rc.regB a && Rc.regB b && Rc.regB c && ((c == 0 && sc == 0)) && (imm == 0) && Rc.smallB imm && (Wd.numB sub && Wd.numB k)) := by
 show (true && (lb == 0) && Rc.regB a && Rc.regB b && Rc.regB c && (true || a == 0) && (true || b == 0) && (false || (c == 0 && sc == 0)) && (true || k == 0) && (true || sub == 0) && (false || imm == 0) && (false || Rc.smallB imm) && (Wd.numB sub && Wd.numB k)) = _
 simp only [Bool.true_and, Bool.and_true, Bool.true_or, Bool.false_or, Bool.and_assoc]
theorem rmay_8 (a b c k sub sc imm lb : Int) (w : World) (h1 : -9223372036854775808 ≤ imm) (h2 : imm ≤ 9223372036854775807) :
  Calls Tryz.prog 69 #[.agg #[.int .i64 8, .int .i64 a, .int .i64 b, .int .i64 c, .int .i64 k, .int .i64 sub, .int .i64 sc, .int .i64 imm, .int .i64 lb]] w fun e w' => e = .returned (.bool (Cc.mayB ⟨8, a, b, c, k, sub, sc, imm, lb⟩)) ∧ w.grownBy w' none := by
 have HM : Hid (Cc.mayB ⟨8, a, b, c, k, sub, sc, imm, lb⟩ = ((lb == 0) && Rc.regB a && Rc.regB b && Rc.regB c && ((c == 0 && sc == 0)) && (imm == 0) && Rc.smallB imm && (Wd.numB sub && Wd.numB k))) := may_8 a b c k sub sc imm lb
 have HR : Hid (∀ W, Calls Tryz.prog 72 #[.int .i64 8] W fun e w' => e = .returned (.string ⟨#[97, 75, 83]⟩) ∧ w' = W) := rrow_any 8
 have UA : Hid (∀ W, Calls Tryz.prog 102 #[.int .i64 8, .int .u8 65] W fun e w' => e = .returned (.bool true) ∧ w' = W) := ruses_any 8 65
 have UB : Hid (∀ W, Calls Tryz.prog 102 #[.int .i64 8, .int .u8 66] W fun e w' => e = .returned (.bool true) ∧ w' = W) := ruses_any 8 66
 have UC : Hid (∀ W, Calls Tryz.prog 102 #[.int .i64 8, .int .u8 67] W fun e w' => e = .returned (.bool false) ∧ w' = W) := ruses_any 8 67
 have UK : Hid (∀ W, Calls Tryz.prog 102 #[.int .i64 8, .int .u8 75] W fun e w' => e = .returned (.bool true) ∧ w' = W) := ruses_any 8 75
 have US : Hid (∀ W, Calls Tryz.prog 102 #[.int .i64 8, .int .u8 83] W fun e w' => e = .returned (.bool true) ∧ w' = W) := ruses_any 8 83
 have UI : Hid (∀ W, Calls Tryz.prog 102 #[.int .i64 8, .int .u8 73] W fun e w' => e = .returned (.bool false) ∧ w' = W) := ruses_any 8 73
 go_enter Tryz.func69, Tryz.ntmps69
 simp only [List.append]
 go_wp2_with (first
  | (go_at_call 72; refine (HR.out _).mono ?_; rintro e w' ⟨rfl, rfl⟩)
  | (go_at_call 95; refine (rreg_any _ _).mono ?_; rintro e w' ⟨rfl, rfl⟩)
  | (go_at_call_of 102 (Value.int .u8 65); refine (UA.out _).mono ?_; rintro e w' ⟨rfl, rfl⟩)
  | (go_at_call_of 102 (Value.int .u8 66); refine (UB.out _).mono ?_; rintro e w' ⟨rfl, rfl⟩)
  | (go_at_call_of 102 (Value.int .u8 67); refine (UC.out _).mono ?_; rintro e w' ⟨rfl, rfl⟩)
  | (go_at_call_of 102 (Value.int .u8 75); refine (UK.out _).mono ?_; rintro e w' ⟨rfl, rfl⟩)
  | (go_at_call_of 102 (Value.int .u8 83); refine (US.out _).mono ?_; rintro e w' ⟨rfl, rfl⟩)
  | (go_at_call_of 102 (Value.int .u8 73); refine (UI.out _).mono ?_; rintro e w' ⟨rfl, rfl⟩)
  | (go_at_call 71; refine (rsmall_any _ _).mono ?_; rintro e w' ⟨rfl, rfl⟩)
  | (go_at_call 100; refine (rhasConv_any _ _ _).mono ?_; rintro e w' ⟨rfl, rfl⟩))
 all_goals
  go_ret
  refine ⟨ret_bool ?_, by first | exact gal | exact gtr gal g2⟩
  go_light
  clear HR UA UB UC UK US UI
  rw [HM.out]
  clear HM
  first | (simp [*]; done) | (simp_all; done) | (simp_all; omega)
theorem may_11 (a b c k sub sc imm lb : Int) : Cc.mayB ⟨11, a, b, c, k, sub, sc, imm, lb⟩ = ((lb == 0) && Rc.regB a && Rc.regB b && Rc.regB c && ((c == 0 && sc == 0)) && (sub == 0) && Rc.smallB imm && Wd.wordB k) := by
 show (true && (lb == 0) && Rc.regB a && Rc.regB b && Rc.regB c && (true || a == 0) && (true || b == 0) && (false || (c == 0 && sc == 0)) && (true || k == 0) && (false || sub == 0) && (true || imm == 0) && (false || Rc.smallB imm) && Wd.wordB k) = _
 simp only [Bool.true_and, Bool.and_true, Bool.true_or, Bool.false_or, Bool.and_assoc]
theorem rmay_11 (a b c k sub sc imm lb : Int) (w : World) (h1 : -9223372036854775808 ≤ imm) (h2 : imm ≤ 9223372036854775807) :
  Calls Tryz.prog 69 #[.agg #[.int .i64 11, .int .i64 a, .int .i64 b, .int .i64 c, .int .i64 k, .int .i64 sub, .int .i64 sc, .int .i64 imm, .int .i64 lb]] w fun e w' => e = .returned (.bool (Cc.mayB ⟨11, a, b, c, k, sub, sc, imm, lb⟩)) ∧ w.grownBy w' none := by
 have HM : Hid (Cc.mayB ⟨11, a, b, c, k, sub, sc, imm, lb⟩ = ((lb == 0) && Rc.regB a && Rc.regB b && Rc.regB c && ((c == 0 && sc == 0)) && (sub == 0) && Rc.smallB imm && Wd.wordB k)) := may_11 a b c k sub sc imm lb
 have HR : Hid (∀ W, Calls Tryz.prog 72 #[.int .i64 11] W fun e w' => e = .returned (.string ⟨#[97, 75, 52]⟩) ∧ w' = W) := rrow_any 11
 have UA : Hid (∀ W, Calls Tryz.prog 102 #[.int .i64 11, .int .u8 65] W fun e w' => e = .returned (.bool true) ∧ w' = W) := ruses_any 11 65
 have UB : Hid (∀ W, Calls Tryz.prog 102 #[.int .i64 11, .int .u8 66] W fun e w' => e = .returned (.bool true) ∧ w' = W) := ruses_any 11 66
 have UC : Hid (∀ W, Calls Tryz.prog 102 #[.int .i64 11, .int .u8 67] W fun e w' => e = .returned (.bool false) ∧ w' = W) := ruses_any 11 67
 have UK : Hid (∀ W, Calls Tryz.prog 102 #[.int .i64 11, .int .u8 75] W fun e w' => e = .returned (.bool true) ∧ w' = W) := ruses_any 11 75
 have US : Hid (∀ W, Calls Tryz.prog 102 #[.int .i64 11, .int .u8 83] W fun e w' => e = .returned (.bool false) ∧ w' = W) := ruses_any 11 83
 have UI : Hid (∀ W, Calls Tryz.prog 102 #[.int .i64 11, .int .u8 73] W fun e w' => e = .returned (.bool true) ∧ w' = W) := ruses_any 11 73
 go_enter Tryz.func69, Tryz.ntmps69
 simp only [List.append]
 go_wp2_with (first
  | (go_at_call 72; refine (HR.out _).mono ?_; rintro e w' ⟨rfl, rfl⟩)
  | (go_at_call 95; refine (rreg_any _ _).mono ?_; rintro e w' ⟨rfl, rfl⟩)
  | (go_at_call_of 102 (Value.int .u8 65); refine (UA.out _).mono ?_; rintro e w' ⟨rfl, rfl⟩)
  | (go_at_call_of 102 (Value.int .u8 66); refine (UB.out _).mono ?_; rintro e w' ⟨rfl, rfl⟩)
  | (go_at_call_of 102 (Value.int .u8 67); refine (UC.out _).mono ?_; rintro e w' ⟨rfl, rfl⟩)
  | (go_at_call_of 102 (Value.int .u8 75); refine (UK.out _).mono ?_; rintro e w' ⟨rfl, rfl⟩)
  | (go_at_call_of 102 (Value.int .u8 83); refine (US.out _).mono ?_; rintro e w' ⟨rfl, rfl⟩)
  | (go_at_call_of 102 (Value.int .u8 73); refine (UI.out _).mono ?_; rintro e w' ⟨rfl, rfl⟩)
  | (go_at_call 71; refine (rsmall_any _ _).mono ?_; rintro e w' ⟨rfl, rfl⟩)
  | (go_at_call 101; refine (rword_any _ _).mono ?_; rintro e w' ⟨rfl, rfl⟩))
 all_goals
  go_ret
  refine ⟨ret_bool ?_, by first | exact gal | exact gtr gal g2⟩
  go_light
  clear HR UA UB UC UK US UI
  rw [HM.out]
  clear HM
  first | (simp [*]; done) | (simp_all; done) | (simp_all; omega)
end Go.Proofs.YtkiockffejlnhaaGreatDoor
