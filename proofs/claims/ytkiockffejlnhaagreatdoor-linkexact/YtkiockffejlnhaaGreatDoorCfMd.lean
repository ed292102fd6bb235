/- gantryref4.May, code by code, on. -/
import Derived.Test.YtkiockffejlnhaaGreatDoorG18
import Derived.Deep.RegionWith
import Derived.BigGuardPart
import Derived.Deep.Light
namespace Go.Proofs.YtkiockffejlnhaaGreatDoor
set_option maxRecDepth 100000
set_option maxHeartbeats 32000000
open Go.RowKit
set_option linter.unusedVariables false
theorem may_4 (a b c k sub sc imm lb : Int) : Cc.mayB ⟨4, a, b, c, k, sub, sc, imm, lb⟩ = ((lb == 0) && Rc.regB a && Rc.regB b && Rc.regB c && ((c == 0 && sc == 0)) && (imm == 0) && Rc.smallB imm && Cc.binB ⟨4, a, b, c, k, sub, sc, imm, lb⟩) := by
 show (true && (lb == 0) && Rc.regB a && Rc.regB b && Rc.regB c && (true || a == 0) && (true || b == 0) && (false || (c == 0 && sc == 0)) && (true || k == 0) && (true || sub == 0) && (false || imm == 0) && (false || Rc.smallB imm) && Cc.binB ⟨4, a, b, c, k, sub, sc, imm, lb⟩) = _
 simp only [Bool.true_and, Bool.and_true, Bool.true_or, Bool.false_or, Bool.and_assoc]
theorem rmay_4 (a b c k sub sc imm lb : Int) (w : World) (h1 : -9223372036854775808 ≤ imm) (h2 : imm ≤ 9223372036854775807) :
  Calls Tryz.prog 69 #[.agg #[.int .i64 4, .int .i64 a, .int .i64 b, .int .i64 c, .int .i64 k, .int .i64 sub, .int .i64 sc, .int .i64 imm, .int .i64 lb]] w fun e w' => e = .returned (.bool (Cc.mayB ⟨4, a, b, c, k, sub, sc, imm, lb⟩)) ∧ w.grownBy w' none := by
 have HM : Hid (Cc.mayB ⟨4, a, b, c, k, sub, sc, imm, lb⟩ = ((lb == 0) && Rc.regB a && Rc.regB b && Rc.regB c && ((c == 0 && sc == 0)) && (imm == 0) && Rc.smallB imm && Cc.binB ⟨4, a, b, c, k, sub, sc, imm, lb⟩)) := may_4 a b c k sub sc imm lb
 have HR : Hid (∀ W, Calls Tryz.prog 72 #[.int .i64 4] W fun e w' => e = .returned (.string ⟨#[97, 75, 83]⟩) ∧ w' = W) := rrow_any 4
 have UA : Hid (∀ W, Calls Tryz.prog 102 #[.int .i64 4, .int .u8 65] W fun e w' => e = .returned (.bool true) ∧ w' = W) := ruses_any 4 65
 have UB : Hid (∀ W, Calls Tryz.prog 102 #[.int .i64 4, .int .u8 66] W fun e w' => e = .returned (.bool true) ∧ w' = W) := ruses_any 4 66
 have UC : Hid (∀ W, Calls Tryz.prog 102 #[.int .i64 4, .int .u8 67] W fun e w' => e = .returned (.bool false) ∧ w' = W) := ruses_any 4 67
 have UK : Hid (∀ W, Calls Tryz.prog 102 #[.int .i64 4, .int .u8 75] W fun e w' => e = .returned (.bool true) ∧ w' = W) := ruses_any 4 75
 have US : Hid (∀ W, Calls Tryz.prog 102 #[.int .i64 4, .int .u8 83] W fun e w' => e = .returned (.bool true) ∧ w' = W) := ruses_any 4 83
 have UI : Hid (∀ W, Calls Tryz.prog 102 #[.int .i64 4, .int .u8 73] W fun e w' => e = .returned (.bool false) ∧ w' = W) := ruses_any 4 73
 have HB : Hid (∀ W, Calls Tryz.prog 103 #[.agg #[.int .i64 4, .int .i64 a, .int .i64 b, .int .i64 c, .int .i64 k, .int .i64 sub, .int .i64 sc, .int .i64 imm, .int .i64 lb]] W fun e w' => e = .returned (.bool (Cc.binB ⟨4, a, b, c, k, sub, sc, imm, lb⟩)) ∧ W.grownBy w' none) := rbinary_at 4 a b c k sub sc imm lb
 generalize Cc.binB ⟨4, a, b, c, k, sub, sc, imm, lb⟩ = SB at *
 cases e0 : (lb != 0)
 case true =>
  go_enter Tryz.func69, Tryz.ntmps69
  simp only [List.append]
  go_wp2_with (first
   | (go_at_call 72; refine (HR.out _).mono ?_; rintro e w' ⟨rfl, rfl⟩)
   | (go_at_call 95; refine (rreg_any _ _).mono ?_; rintro e w' ⟨rfl, rfl⟩)
   | (go_at_call_of 102 (Value.int .u8 65); refine (UA.out _).mono ?_; rintro e w' ⟨rfl, rfl⟩)
   | (go_at_call_of 102 (Value.int .u8 66); refine (UB.out _).mono ?_; rintro e w' ⟨rfl, rfl⟩)
   | (go_at_call_of 102 (Value.int .u8 67); refine (UC.out _).mono ?_; rintro e w' ⟨rfl, rfl⟩)
   | (go_at_call_of 102 (Value.int .u8 75); refine (UK.out _).mono ?_; rintro e w' ⟨rfl, rfl⟩)
   | (go_at_call_of 102 (Value.int .u8 83); refine (US.out _).mono ?_; rintro e w' ⟨rfl, rfl⟩)
   | (go_at_call_of 102 (Value.int .u8 73); refine (UI.out _).mono ?_; rintro e w' ⟨rfl, rfl⟩)
   | (go_at_call 71; refine (rsmall_any _ _).mono ?_; rintro e w' ⟨rfl, rfl⟩))
  go_ret
  refine ⟨ret_bool ?_, gal⟩
  go_light
  clear HR UA UB UC UK US UI HB
  rw [HM.out]
  clear HM
  first | (simp [*]; done) | (simp_all; done)
 cases e1 : Rc.regB a
 case false =>
  go_enter Tryz.func69, Tryz.ntmps69
  simp only [List.append]
  go_wp2_with (first
   | (go_at_call 72; refine (HR.out _).mono ?_; rintro e w' ⟨rfl, rfl⟩)
   | (go_at_call 95; refine (rreg_any _ _).mono ?_; rintro e w' ⟨rfl, rfl⟩)
   | (go_at_call_of 102 (Value.int .u8 65); refine (UA.out _).mono ?_; rintro e w' ⟨rfl, rfl⟩)
   | (go_at_call_of 102 (Value.int .u8 66); refine (UB.out _).mono ?_; rintro e w' ⟨rfl, rfl⟩)
   | (go_at_call_of 102 (Value.int .u8 67); refine (UC.out _).mono ?_; rintro e w' ⟨rfl, rfl⟩)
   | (go_at_call_of 102 (Value.int .u8 75); refine (UK.out _).mono ?_; rintro e w' ⟨rfl, rfl⟩)
   | (go_at_call_of 102 (Value.int .u8 83); refine (US.out _).mono ?_; rintro e w' ⟨rfl, rfl⟩)
   | (go_at_call_of 102 (Value.int .u8 73); refine (UI.out _).mono ?_; rintro e w' ⟨rfl, rfl⟩)
   | (go_at_call 71; refine (rsmall_any _ _).mono ?_; rintro e w' ⟨rfl, rfl⟩))
  go_ret
  refine ⟨ret_bool ?_, gal⟩
  go_light
  clear HR UA UB UC UK US UI HB
  rw [HM.out]
  clear HM
  first | (simp [*]; done) | (simp_all; done)
 cases e2 : Rc.regB b
 case false =>
  go_enter Tryz.func69, Tryz.ntmps69
  simp only [List.append]
  go_wp2_with (first
   | (go_at_call 72; refine (HR.out _).mono ?_; rintro e w' ⟨rfl, rfl⟩)
   | (go_at_call 95; refine (rreg_any _ _).mono ?_; rintro e w' ⟨rfl, rfl⟩)
   | (go_at_call_of 102 (Value.int .u8 65); refine (UA.out _).mono ?_; rintro e w' ⟨rfl, rfl⟩)
   | (go_at_call_of 102 (Value.int .u8 66); refine (UB.out _).mono ?_; rintro e w' ⟨rfl, rfl⟩)
   | (go_at_call_of 102 (Value.int .u8 67); refine (UC.out _).mono ?_; rintro e w' ⟨rfl, rfl⟩)
   | (go_at_call_of 102 (Value.int .u8 75); refine (UK.out _).mono ?_; rintro e w' ⟨rfl, rfl⟩)
   | (go_at_call_of 102 (Value.int .u8 83); refine (US.out _).mono ?_; rintro e w' ⟨rfl, rfl⟩)
   | (go_at_call_of 102 (Value.int .u8 73); refine (UI.out _).mono ?_; rintro e w' ⟨rfl, rfl⟩)
   | (go_at_call 71; refine (rsmall_any _ _).mono ?_; rintro e w' ⟨rfl, rfl⟩))
  go_ret
  refine ⟨ret_bool ?_, gal⟩
  go_light
  clear HR UA UB UC UK US UI HB
  rw [HM.out]
  clear HM
  first | (simp [*]; done) | (simp_all; done)
 cases e3 : Rc.regB c
 case false =>
  go_enter Tryz.func69, Tryz.ntmps69
  simp only [List.append]
  go_wp2_with (first
   | (go_at_call 72; refine (HR.out _).mono ?_; rintro e w' ⟨rfl, rfl⟩)
   | (go_at_call 95; refine (rreg_any _ _).mono ?_; rintro e w' ⟨rfl, rfl⟩)
   | (go_at_call_of 102 (Value.int .u8 65); refine (UA.out _).mono ?_; rintro e w' ⟨rfl, rfl⟩)
   | (go_at_call_of 102 (Value.int .u8 66); refine (UB.out _).mono ?_; rintro e w' ⟨rfl, rfl⟩)
   | (go_at_call_of 102 (Value.int .u8 67); refine (UC.out _).mono ?_; rintro e w' ⟨rfl, rfl⟩)
   | (go_at_call_of 102 (Value.int .u8 75); refine (UK.out _).mono ?_; rintro e w' ⟨rfl, rfl⟩)
   | (go_at_call_of 102 (Value.int .u8 83); refine (US.out _).mono ?_; rintro e w' ⟨rfl, rfl⟩)
   | (go_at_call_of 102 (Value.int .u8 73); refine (UI.out _).mono ?_; rintro e w' ⟨rfl, rfl⟩)
   | (go_at_call 71; refine (rsmall_any _ _).mono ?_; rintro e w' ⟨rfl, rfl⟩))
  go_ret
  refine ⟨ret_bool ?_, gal⟩
  go_light
  clear HR UA UB UC UK US UI HB
  rw [HM.out]
  clear HM
  first | (simp [*]; done) | (simp_all; done)
 cases e4 : (c != 0)
 case true =>
  go_enter Tryz.func69, Tryz.ntmps69
  simp only [List.append]
  go_wp2_with (first
   | (go_at_call 72; refine (HR.out _).mono ?_; rintro e w' ⟨rfl, rfl⟩)
   | (go_at_call 95; refine (rreg_any _ _).mono ?_; rintro e w' ⟨rfl, rfl⟩)
   | (go_at_call_of 102 (Value.int .u8 65); refine (UA.out _).mono ?_; rintro e w' ⟨rfl, rfl⟩)
   | (go_at_call_of 102 (Value.int .u8 66); refine (UB.out _).mono ?_; rintro e w' ⟨rfl, rfl⟩)
   | (go_at_call_of 102 (Value.int .u8 67); refine (UC.out _).mono ?_; rintro e w' ⟨rfl, rfl⟩)
   | (go_at_call_of 102 (Value.int .u8 75); refine (UK.out _).mono ?_; rintro e w' ⟨rfl, rfl⟩)
   | (go_at_call_of 102 (Value.int .u8 83); refine (US.out _).mono ?_; rintro e w' ⟨rfl, rfl⟩)
   | (go_at_call_of 102 (Value.int .u8 73); refine (UI.out _).mono ?_; rintro e w' ⟨rfl, rfl⟩)
   | (go_at_call 71; refine (rsmall_any _ _).mono ?_; rintro e w' ⟨rfl, rfl⟩))
  go_ret
  refine ⟨ret_bool ?_, gal⟩
  go_light
  clear HR UA UB UC UK US UI HB
  rw [HM.out]
  clear HM
  first | (simp [*]; done) | (simp_all; done)
 cases e5 : (sc != 0)
 case true =>
  go_enter Tryz.func69, Tryz.ntmps69
  simp only [List.append]
  go_wp2_with (first
   | (go_at_call 72; refine (HR.out _).mono ?_; rintro e w' ⟨rfl, rfl⟩)
   | (go_at_call 95; refine (rreg_any _ _).mono ?_; rintro e w' ⟨rfl, rfl⟩)
   | (go_at_call_of 102 (Value.int .u8 65); refine (UA.out _).mono ?_; rintro e w' ⟨rfl, rfl⟩)
   | (go_at_call_of 102 (Value.int .u8 66); refine (UB.out _).mono ?_; rintro e w' ⟨rfl, rfl⟩)
   | (go_at_call_of 102 (Value.int .u8 67); refine (UC.out _).mono ?_; rintro e w' ⟨rfl, rfl⟩)
   | (go_at_call_of 102 (Value.int .u8 75); refine (UK.out _).mono ?_; rintro e w' ⟨rfl, rfl⟩)
   | (go_at_call_of 102 (Value.int .u8 83); refine (US.out _).mono ?_; rintro e w' ⟨rfl, rfl⟩)
   | (go_at_call_of 102 (Value.int .u8 73); refine (UI.out _).mono ?_; rintro e w' ⟨rfl, rfl⟩)
   | (go_at_call 71; refine (rsmall_any _ _).mono ?_; rintro e w' ⟨rfl, rfl⟩))
  go_ret
  refine ⟨ret_bool ?_, gal⟩
  go_light
  clear HR UA UB UC UK US UI HB
  rw [HM.out]
  clear HM
  first | (simp [*]; done) | (simp_all; done)
 cases e6 : (imm != 0)
 case true =>
  go_enter Tryz.func69, Tryz.ntmps69
  simp only [List.append]
  go_wp2_with (first
   | (go_at_call 72; refine (HR.out _).mono ?_; rintro e w' ⟨rfl, rfl⟩)
   | (go_at_call 95; refine (rreg_any _ _).mono ?_; rintro e w' ⟨rfl, rfl⟩)
   | (go_at_call_of 102 (Value.int .u8 65); refine (UA.out _).mono ?_; rintro e w' ⟨rfl, rfl⟩)
   | (go_at_call_of 102 (Value.int .u8 66); refine (UB.out _).mono ?_; rintro e w' ⟨rfl, rfl⟩)
   | (go_at_call_of 102 (Value.int .u8 67); refine (UC.out _).mono ?_; rintro e w' ⟨rfl, rfl⟩)
   | (go_at_call_of 102 (Value.int .u8 75); refine (UK.out _).mono ?_; rintro e w' ⟨rfl, rfl⟩)
   | (go_at_call_of 102 (Value.int .u8 83); refine (US.out _).mono ?_; rintro e w' ⟨rfl, rfl⟩)
   | (go_at_call_of 102 (Value.int .u8 73); refine (UI.out _).mono ?_; rintro e w' ⟨rfl, rfl⟩)
   | (go_at_call 71; refine (rsmall_any _ _).mono ?_; rintro e w' ⟨rfl, rfl⟩))
  go_ret
  refine ⟨ret_bool ?_, gal⟩
  go_light
  clear HR UA UB UC UK US UI HB
  rw [HM.out]
  clear HM
  first | (simp [*]; done) | (simp_all; done)
 cases e7 : Rc.smallB imm
 case false =>
  go_enter Tryz.func69, Tryz.ntmps69
  simp only [List.append]
  go_wp2_with (first
   | (go_at_call 72; refine (HR.out _).mono ?_; rintro e w' ⟨rfl, rfl⟩)
   | (go_at_call 95; refine (rreg_any _ _).mono ?_; rintro e w' ⟨rfl, rfl⟩)
   | (go_at_call_of 102 (Value.int .u8 65); refine (UA.out _).mono ?_; rintro e w' ⟨rfl, rfl⟩)
   | (go_at_call_of 102 (Value.int .u8 66); refine (UB.out _).mono ?_; rintro e w' ⟨rfl, rfl⟩)
   | (go_at_call_of 102 (Value.int .u8 67); refine (UC.out _).mono ?_; rintro e w' ⟨rfl, rfl⟩)
   | (go_at_call_of 102 (Value.int .u8 75); refine (UK.out _).mono ?_; rintro e w' ⟨rfl, rfl⟩)
   | (go_at_call_of 102 (Value.int .u8 83); refine (US.out _).mono ?_; rintro e w' ⟨rfl, rfl⟩)
   | (go_at_call_of 102 (Value.int .u8 73); refine (UI.out _).mono ?_; rintro e w' ⟨rfl, rfl⟩)
   | (go_at_call 71; refine (rsmall_any _ _).mono ?_; rintro e w' ⟨rfl, rfl⟩))
  go_ret
  refine ⟨ret_bool ?_, gal⟩
  go_light
  clear HR UA UB UC UK US UI HB
  rw [HM.out]
  clear HM
  first | (simp [*]; done) | (simp_all; done)
 go_enter Tryz.func69, Tryz.ntmps69
 simp only [List.append]
 go_wp2_with (first
  | (go_at_call 72; refine (HR.out _).mono ?_; rintro e w' ⟨rfl, rfl⟩)
  | (go_at_call 95; refine (rreg_any _ _).mono ?_; rintro e w' ⟨rfl, rfl⟩)
  | (go_at_call_of 102 (Value.int .u8 65); refine (UA.out _).mono ?_; rintro e w' ⟨rfl, rfl⟩)
  | (go_at_call_of 102 (Value.int .u8 66); refine (UB.out _).mono ?_; rintro e w' ⟨rfl, rfl⟩)
  | (go_at_call_of 102 (Value.int .u8 67); refine (UC.out _).mono ?_; rintro e w' ⟨rfl, rfl⟩)
  | (go_at_call_of 102 (Value.int .u8 75); refine (UK.out _).mono ?_; rintro e w' ⟨rfl, rfl⟩)
  | (go_at_call_of 102 (Value.int .u8 83); refine (US.out _).mono ?_; rintro e w' ⟨rfl, rfl⟩)
  | (go_at_call_of 102 (Value.int .u8 73); refine (UI.out _).mono ?_; rintro e w' ⟨rfl, rfl⟩)
  | (go_at_call 71; refine (rsmall_any _ _).mono ?_; rintro e w' ⟨rfl, rfl⟩)
  | (go_at_call 103; refine (HB.out _).mono ?_; rintro e w2 ⟨rfl, g2⟩))
 go_ret
 refine ⟨ret_bool ?_, gtr gal g2⟩
 go_light
 clear HR UA UB UC UK US UI HB
 rw [HM.out]
 clear HM
 first | (simp [*]; done) | (simp_all; done)
theorem may_10 (a b c k sub sc imm lb : Int) : Cc.mayB ⟨10, a, b, c, k, sub, sc, imm, lb⟩ = ((lb == 0) && Rc.regB a && Rc.regB b && Rc.regB c && (k == 0) && (sub == 0) && Rc.smallB imm && Cc.sclB ⟨10, a, b, c, k, sub, sc, imm, lb⟩) := by
 show (true && (lb == 0) && Rc.regB a && Rc.regB b && Rc.regB c && (true || a == 0) && (true || b == 0) && (true || (c == 0 && sc == 0)) && (false || k == 0) && (false || sub == 0) && (true || imm == 0) && (false || Rc.smallB imm) && Cc.sclB ⟨10, a, b, c, k, sub, sc, imm, lb⟩) = _
 simp only [Bool.true_and, Bool.and_true, Bool.true_or, Bool.false_or, Bool.and_assoc]
theorem rmay_10 (a b c k sub sc imm lb : Int) (w : World) (h1 : -9223372036854775808 ≤ imm) (h2 : imm ≤ 9223372036854775807) :
  Calls Tryz.prog 69 #[.agg #[.int .i64 10, .int .i64 a, .int .i64 b, .int .i64 c, .int .i64 k, .int .i64 sub, .int .i64 sc, .int .i64 imm, .int .i64 lb]] w fun e w' => e = .returned (.bool (Cc.mayB ⟨10, a, b, c, k, sub, sc, imm, lb⟩)) ∧ w.grownBy w' none := by
 have HM : Hid (Cc.mayB ⟨10, a, b, c, k, sub, sc, imm, lb⟩ = ((lb == 0) && Rc.regB a && Rc.regB b && Rc.regB c && (k == 0) && (sub == 0) && Rc.smallB imm && Cc.sclB ⟨10, a, b, c, k, sub, sc, imm, lb⟩)) := may_10 a b c k sub sc imm lb
 have HR : Hid (∀ W, Calls Tryz.prog 72 #[.int .i64 10] W fun e w' => e = .returned (.string ⟨#[97, 99, 52]⟩) ∧ w' = W) := rrow_any 10
 have UA : Hid (∀ W, Calls Tryz.prog 102 #[.int .i64 10, .int .u8 65] W fun e w' => e = .returned (.bool true) ∧ w' = W) := ruses_any 10 65
 have UB : Hid (∀ W, Calls Tryz.prog 102 #[.int .i64 10, .int .u8 66] W fun e w' => e = .returned (.bool true) ∧ w' = W) := ruses_any 10 66
 have UC : Hid (∀ W, Calls Tryz.prog 102 #[.int .i64 10, .int .u8 67] W fun e w' => e = .returned (.bool true) ∧ w' = W) := ruses_any 10 67
 have UK : Hid (∀ W, Calls Tryz.prog 102 #[.int .i64 10, .int .u8 75] W fun e w' => e = .returned (.bool false) ∧ w' = W) := ruses_any 10 75
 have US : Hid (∀ W, Calls Tryz.prog 102 #[.int .i64 10, .int .u8 83] W fun e w' => e = .returned (.bool false) ∧ w' = W) := ruses_any 10 83
 have UI : Hid (∀ W, Calls Tryz.prog 102 #[.int .i64 10, .int .u8 73] W fun e w' => e = .returned (.bool true) ∧ w' = W) := ruses_any 10 73
 have HB : Hid (∀ W, Calls Tryz.prog 107 #[.agg #[.int .i64 10, .int .i64 a, .int .i64 b, .int .i64 c, .int .i64 k, .int .i64 sub, .int .i64 sc, .int .i64 imm, .int .i64 lb]] W fun e w' => e = .returned (.bool (Cc.sclB ⟨10, a, b, c, k, sub, sc, imm, lb⟩)) ∧ W.grownBy w' none) := rscaled_at 10 a b c k sub sc imm lb
 generalize Cc.sclB ⟨10, a, b, c, k, sub, sc, imm, lb⟩ = SB at *
 cases e0 : (lb != 0)
 case true =>
  go_enter Tryz.func69, Tryz.ntmps69
  simp only [List.append]
  go_wp2_with (first
   | (go_at_call 72; refine (HR.out _).mono ?_; rintro e w' ⟨rfl, rfl⟩)
   | (go_at_call 95; refine (rreg_any _ _).mono ?_; rintro e w' ⟨rfl, rfl⟩)
   | (go_at_call_of 102 (Value.int .u8 65); refine (UA.out _).mono ?_; rintro e w' ⟨rfl, rfl⟩)
   | (go_at_call_of 102 (Value.int .u8 66); refine (UB.out _).mono ?_; rintro e w' ⟨rfl, rfl⟩)
   | (go_at_call_of 102 (Value.int .u8 67); refine (UC.out _).mono ?_; rintro e w' ⟨rfl, rfl⟩)
   | (go_at_call_of 102 (Value.int .u8 75); refine (UK.out _).mono ?_; rintro e w' ⟨rfl, rfl⟩)
   | (go_at_call_of 102 (Value.int .u8 83); refine (US.out _).mono ?_; rintro e w' ⟨rfl, rfl⟩)
   | (go_at_call_of 102 (Value.int .u8 73); refine (UI.out _).mono ?_; rintro e w' ⟨rfl, rfl⟩)
   | (go_at_call 71; refine (rsmall_any _ _).mono ?_; rintro e w' ⟨rfl, rfl⟩))
  go_ret
  refine ⟨ret_bool ?_, gal⟩
  go_light
  clear HR UA UB UC UK US UI HB
  rw [HM.out]
  clear HM
  first | (simp [*]; done) | (simp_all; done)
 cases e1 : Rc.regB a
 case false =>
  go_enter Tryz.func69, Tryz.ntmps69
  simp only [List.append]
  go_wp2_with (first
   | (go_at_call 72; refine (HR.out _).mono ?_; rintro e w' ⟨rfl, rfl⟩)
   | (go_at_call 95; refine (rreg_any _ _).mono ?_; rintro e w' ⟨rfl, rfl⟩)
   | (go_at_call_of 102 (Value.int .u8 65); refine (UA.out _).mono ?_; rintro e w' ⟨rfl, rfl⟩)
   | (go_at_call_of 102 (Value.int .u8 66); refine (UB.out _).mono ?_; rintro e w' ⟨rfl, rfl⟩)
   | (go_at_call_of 102 (Value.int .u8 67); refine (UC.out _).mono ?_; rintro e w' ⟨rfl, rfl⟩)
   | (go_at_call_of 102 (Value.int .u8 75); refine (UK.out _).mono ?_; rintro e w' ⟨rfl, rfl⟩)
   | (go_at_call_of 102 (Value.int .u8 83); refine (US.out _).mono ?_; rintro e w' ⟨rfl, rfl⟩)
   | (go_at_call_of 102 (Value.int .u8 73); refine (UI.out _).mono ?_; rintro e w' ⟨rfl, rfl⟩)
   | (go_at_call 71; refine (rsmall_any _ _).mono ?_; rintro e w' ⟨rfl, rfl⟩))
  go_ret
  refine ⟨ret_bool ?_, gal⟩
  go_light
  clear HR UA UB UC UK US UI HB
  rw [HM.out]
  clear HM
  first | (simp [*]; done) | (simp_all; done)
 cases e2 : Rc.regB b
 case false =>
  go_enter Tryz.func69, Tryz.ntmps69
  simp only [List.append]
  go_wp2_with (first
   | (go_at_call 72; refine (HR.out _).mono ?_; rintro e w' ⟨rfl, rfl⟩)
   | (go_at_call 95; refine (rreg_any _ _).mono ?_; rintro e w' ⟨rfl, rfl⟩)
   | (go_at_call_of 102 (Value.int .u8 65); refine (UA.out _).mono ?_; rintro e w' ⟨rfl, rfl⟩)
   | (go_at_call_of 102 (Value.int .u8 66); refine (UB.out _).mono ?_; rintro e w' ⟨rfl, rfl⟩)
   | (go_at_call_of 102 (Value.int .u8 67); refine (UC.out _).mono ?_; rintro e w' ⟨rfl, rfl⟩)
   | (go_at_call_of 102 (Value.int .u8 75); refine (UK.out _).mono ?_; rintro e w' ⟨rfl, rfl⟩)
   | (go_at_call_of 102 (Value.int .u8 83); refine (US.out _).mono ?_; rintro e w' ⟨rfl, rfl⟩)
   | (go_at_call_of 102 (Value.int .u8 73); refine (UI.out _).mono ?_; rintro e w' ⟨rfl, rfl⟩)
   | (go_at_call 71; refine (rsmall_any _ _).mono ?_; rintro e w' ⟨rfl, rfl⟩))
  go_ret
  refine ⟨ret_bool ?_, gal⟩
  go_light
  clear HR UA UB UC UK US UI HB
  rw [HM.out]
  clear HM
  first | (simp [*]; done) | (simp_all; done)
 cases e3 : Rc.regB c
 case false =>
  go_enter Tryz.func69, Tryz.ntmps69
  simp only [List.append]
  go_wp2_with (first
   | (go_at_call 72; refine (HR.out _).mono ?_; rintro e w' ⟨rfl, rfl⟩)
   | (go_at_call 95; refine (rreg_any _ _).mono ?_; rintro e w' ⟨rfl, rfl⟩)
   | (go_at_call_of 102 (Value.int .u8 65); refine (UA.out _).mono ?_; rintro e w' ⟨rfl, rfl⟩)
   | (go_at_call_of 102 (Value.int .u8 66); refine (UB.out _).mono ?_; rintro e w' ⟨rfl, rfl⟩)
   | (go_at_call_of 102 (Value.int .u8 67); refine (UC.out _).mono ?_; rintro e w' ⟨rfl, rfl⟩)
   | (go_at_call_of 102 (Value.int .u8 75); refine (UK.out _).mono ?_; rintro e w' ⟨rfl, rfl⟩)
   | (go_at_call_of 102 (Value.int .u8 83); refine (US.out _).mono ?_; rintro e w' ⟨rfl, rfl⟩)
   | (go_at_call_of 102 (Value.int .u8 73); refine (UI.out _).mono ?_; rintro e w' ⟨rfl, rfl⟩)
   | (go_at_call 71; refine (rsmall_any _ _).mono ?_; rintro e w' ⟨rfl, rfl⟩))
  go_ret
  refine ⟨ret_bool ?_, gal⟩
  go_light
  clear HR UA UB UC UK US UI HB
  rw [HM.out]
  clear HM
  first | (simp [*]; done) | (simp_all; done)
 cases e4 : (k != 0)
 case true =>
  go_enter Tryz.func69, Tryz.ntmps69
  simp only [List.append]
  go_wp2_with (first
   | (go_at_call 72; refine (HR.out _).mono ?_; rintro e w' ⟨rfl, rfl⟩)
   | (go_at_call 95; refine (rreg_any _ _).mono ?_; rintro e w' ⟨rfl, rfl⟩)
   | (go_at_call_of 102 (Value.int .u8 65); refine (UA.out _).mono ?_; rintro e w' ⟨rfl, rfl⟩)
   | (go_at_call_of 102 (Value.int .u8 66); refine (UB.out _).mono ?_; rintro e w' ⟨rfl, rfl⟩)
   | (go_at_call_of 102 (Value.int .u8 67); refine (UC.out _).mono ?_; rintro e w' ⟨rfl, rfl⟩)
   | (go_at_call_of 102 (Value.int .u8 75); refine (UK.out _).mono ?_; rintro e w' ⟨rfl, rfl⟩)
   | (go_at_call_of 102 (Value.int .u8 83); refine (US.out _).mono ?_; rintro e w' ⟨rfl, rfl⟩)
   | (go_at_call_of 102 (Value.int .u8 73); refine (UI.out _).mono ?_; rintro e w' ⟨rfl, rfl⟩)
   | (go_at_call 71; refine (rsmall_any _ _).mono ?_; rintro e w' ⟨rfl, rfl⟩))
  go_ret
  refine ⟨ret_bool ?_, gal⟩
  go_light
  clear HR UA UB UC UK US UI HB
  rw [HM.out]
  clear HM
  first | (simp [*]; done) | (simp_all; done)
 cases e5 : (sub != 0)
 case true =>
  go_enter Tryz.func69, Tryz.ntmps69
  simp only [List.append]
  go_wp2_with (first
   | (go_at_call 72; refine (HR.out _).mono ?_; rintro e w' ⟨rfl, rfl⟩)
   | (go_at_call 95; refine (rreg_any _ _).mono ?_; rintro e w' ⟨rfl, rfl⟩)
   | (go_at_call_of 102 (Value.int .u8 65); refine (UA.out _).mono ?_; rintro e w' ⟨rfl, rfl⟩)
   | (go_at_call_of 102 (Value.int .u8 66); refine (UB.out _).mono ?_; rintro e w' ⟨rfl, rfl⟩)
   | (go_at_call_of 102 (Value.int .u8 67); refine (UC.out _).mono ?_; rintro e w' ⟨rfl, rfl⟩)
   | (go_at_call_of 102 (Value.int .u8 75); refine (UK.out _).mono ?_; rintro e w' ⟨rfl, rfl⟩)
   | (go_at_call_of 102 (Value.int .u8 83); refine (US.out _).mono ?_; rintro e w' ⟨rfl, rfl⟩)
   | (go_at_call_of 102 (Value.int .u8 73); refine (UI.out _).mono ?_; rintro e w' ⟨rfl, rfl⟩)
   | (go_at_call 71; refine (rsmall_any _ _).mono ?_; rintro e w' ⟨rfl, rfl⟩))
  go_ret
  refine ⟨ret_bool ?_, gal⟩
  go_light
  clear HR UA UB UC UK US UI HB
  rw [HM.out]
  clear HM
  first | (simp [*]; done) | (simp_all; done)
 cases e6 : Rc.smallB imm
 case false =>
  go_enter Tryz.func69, Tryz.ntmps69
  simp only [List.append]
  go_wp2_with (first
   | (go_at_call 72; refine (HR.out _).mono ?_; rintro e w' ⟨rfl, rfl⟩)
   | (go_at_call 95; refine (rreg_any _ _).mono ?_; rintro e w' ⟨rfl, rfl⟩)
   | (go_at_call_of 102 (Value.int .u8 65); refine (UA.out _).mono ?_; rintro e w' ⟨rfl, rfl⟩)
   | (go_at_call_of 102 (Value.int .u8 66); refine (UB.out _).mono ?_; rintro e w' ⟨rfl, rfl⟩)
   | (go_at_call_of 102 (Value.int .u8 67); refine (UC.out _).mono ?_; rintro e w' ⟨rfl, rfl⟩)
   | (go_at_call_of 102 (Value.int .u8 75); refine (UK.out _).mono ?_; rintro e w' ⟨rfl, rfl⟩)
   | (go_at_call_of 102 (Value.int .u8 83); refine (US.out _).mono ?_; rintro e w' ⟨rfl, rfl⟩)
   | (go_at_call_of 102 (Value.int .u8 73); refine (UI.out _).mono ?_; rintro e w' ⟨rfl, rfl⟩)
   | (go_at_call 71; refine (rsmall_any _ _).mono ?_; rintro e w' ⟨rfl, rfl⟩))
  go_ret
  refine ⟨ret_bool ?_, gal⟩
  go_light
  clear HR UA UB UC UK US UI HB
  rw [HM.out]
  clear HM
  first | (simp [*]; done) | (simp_all; done)
 go_enter Tryz.func69, Tryz.ntmps69
 simp only [List.append]
 go_wp2_with (first
  | (go_at_call 72; refine (HR.out _).mono ?_; rintro e w' ⟨rfl, rfl⟩)
  | (go_at_call 95; refine (rreg_any _ _).mono ?_; rintro e w' ⟨rfl, rfl⟩)
  | (go_at_call_of 102 (Value.int .u8 65); refine (UA.out _).mono ?_; rintro e w' ⟨rfl, rfl⟩)
  | (go_at_call_of 102 (Value.int .u8 66); refine (UB.out _).mono ?_; rintro e w' ⟨rfl, rfl⟩)
  | (go_at_call_of 102 (Value.int .u8 67); refine (UC.out _).mono ?_; rintro e w' ⟨rfl, rfl⟩)
  | (go_at_call_of 102 (Value.int .u8 75); refine (UK.out _).mono ?_; rintro e w' ⟨rfl, rfl⟩)
  | (go_at_call_of 102 (Value.int .u8 83); refine (US.out _).mono ?_; rintro e w' ⟨rfl, rfl⟩)
  | (go_at_call_of 102 (Value.int .u8 73); refine (UI.out _).mono ?_; rintro e w' ⟨rfl, rfl⟩)
  | (go_at_call 71; refine (rsmall_any _ _).mono ?_; rintro e w' ⟨rfl, rfl⟩)
  | (go_at_call 107; refine (HB.out _).mono ?_; rintro e w2 ⟨rfl, g2⟩; have xk := ((InstAt.new w ⟨10, a, b, c, k, sub, sc, imm, lb⟩).kept g2 (by simp)).5))
 go_ret
 refine ⟨ret_bool ?_, gtr gal g2⟩
 go_light
 clear HR UA UB UC UK US UI HB
 rw [HM.out]
 clear HM
 first | (simp [*]; done) | (simp_all; done)
theorem may_12 (a b c k sub sc imm lb : Int) : Cc.mayB ⟨12, a, b, c, k, sub, sc, imm, lb⟩ = ((lb == 0) && Rc.regB a && Rc.regB b && Rc.regB c && (sub == 0) && Rc.smallB imm && (Cc.sclB ⟨12, a, b, c, k, sub, sc, imm, lb⟩ && Wd.wordB k)) := by
 show (true && (lb == 0) && Rc.regB a && Rc.regB b && Rc.regB c && (true || a == 0) && (true || b == 0) && (true || (c == 0 && sc == 0)) && (true || k == 0) && (false || sub == 0) && (true || imm == 0) && (false || Rc.smallB imm) && (Cc.sclB ⟨12, a, b, c, k, sub, sc, imm, lb⟩ && Wd.wordB k)) = _
 simp only [Bool.true_and, Bool.and_true, Bool.true_or, Bool.false_or, Bool.and_assoc]
theorem rmay_12 (a b c k sub sc imm lb : Int) (w : World) (h1 : -9223372036854775808 ≤ imm) (h2 : imm ≤ 9223372036854775807) :
  Calls Tryz.prog 69 #[.agg #[.int .i64 12, .int .i64 a, .int .i64 b, .int .i64 c, .int .i64 k, .int .i64 sub, .int .i64 sc, .int .i64 imm, .int .i64 lb]] w fun e w' => e = .returned (.bool (Cc.mayB ⟨12, a, b, c, k, sub, sc, imm, lb⟩)) ∧ w.grownBy w' none := by
 have HM : Hid (Cc.mayB ⟨12, a, b, c, k, sub, sc, imm, lb⟩ = ((lb == 0) && Rc.regB a && Rc.regB b && Rc.regB c && (sub == 0) && Rc.smallB imm && (Cc.sclB ⟨12, a, b, c, k, sub, sc, imm, lb⟩ && Wd.wordB k))) := may_12 a b c k sub sc imm lb
 have HR : Hid (∀ W, Calls Tryz.prog 72 #[.int .i64 12] W fun e w' => e = .returned (.string ⟨#[97, 99, 75, 52]⟩) ∧ w' = W) := rrow_any 12
 have UA : Hid (∀ W, Calls Tryz.prog 102 #[.int .i64 12, .int .u8 65] W fun e w' => e = .returned (.bool true) ∧ w' = W) := ruses_any 12 65
 have UB : Hid (∀ W, Calls Tryz.prog 102 #[.int .i64 12, .int .u8 66] W fun e w' => e = .returned (.bool true) ∧ w' = W) := ruses_any 12 66
 have UC : Hid (∀ W, Calls Tryz.prog 102 #[.int .i64 12, .int .u8 67] W fun e w' => e = .returned (.bool true) ∧ w' = W) := ruses_any 12 67
 have UK : Hid (∀ W, Calls Tryz.prog 102 #[.int .i64 12, .int .u8 75] W fun e w' => e = .returned (.bool true) ∧ w' = W) := ruses_any 12 75
 have US : Hid (∀ W, Calls Tryz.prog 102 #[.int .i64 12, .int .u8 83] W fun e w' => e = .returned (.bool false) ∧ w' = W) := ruses_any 12 83
 have UI : Hid (∀ W, Calls Tryz.prog 102 #[.int .i64 12, .int .u8 73] W fun e w' => e = .returned (.bool true) ∧ w' = W) := ruses_any 12 73
 have HB : Hid (∀ W, Calls Tryz.prog 107 #[.agg #[.int .i64 12, .int .i64 a, .int .i64 b, .int .i64 c, .int .i64 k, .int .i64 sub, .int .i64 sc, .int .i64 imm, .int .i64 lb]] W fun e w' => e = .returned (.bool (Cc.sclB ⟨12, a, b, c, k, sub, sc, imm, lb⟩)) ∧ W.grownBy w' none) := rscaled_at 12 a b c k sub sc imm lb
 generalize Cc.sclB ⟨12, a, b, c, k, sub, sc, imm, lb⟩ = SB at *
 cases e0 : (lb != 0)
 case true =>
  go_enter Tryz.func69, Tryz.ntmps69
  simp only [List.append]
  go_wp2_with (first
   | (go_at_call 72; refine (HR.out _).mono ?_; rintro e w' ⟨rfl, rfl⟩)
   | (go_at_call 95; refine (rreg_any _ _).mono ?_; rintro e w' ⟨rfl, rfl⟩)
   | (go_at_call_of 102 (Value.int .u8 65); refine (UA.out _).mono ?_; rintro e w' ⟨rfl, rfl⟩)
   | (go_at_call_of 102 (Value.int .u8 66); refine (UB.out _).mono ?_; rintro e w' ⟨rfl, rfl⟩)
   | (go_at_call_of 102 (Value.int .u8 67); refine (UC.out _).mono ?_; rintro e w' ⟨rfl, rfl⟩)
   | (go_at_call_of 102 (Value.int .u8 75); refine (UK.out _).mono ?_; rintro e w' ⟨rfl, rfl⟩)
   | (go_at_call_of 102 (Value.int .u8 83); refine (US.out _).mono ?_; rintro e w' ⟨rfl, rfl⟩)
   | (go_at_call_of 102 (Value.int .u8 73); refine (UI.out _).mono ?_; rintro e w' ⟨rfl, rfl⟩)
   | (go_at_call 71; refine (rsmall_any _ _).mono ?_; rintro e w' ⟨rfl, rfl⟩))
  go_ret
  refine ⟨ret_bool ?_, gal⟩
  go_light
  clear HR UA UB UC UK US UI HB
  rw [HM.out]
  clear HM
  first | (simp [*]; done) | (simp_all; done)
 cases e1 : Rc.regB a
 case false =>
  go_enter Tryz.func69, Tryz.ntmps69
  simp only [List.append]
  go_wp2_with (first
   | (go_at_call 72; refine (HR.out _).mono ?_; rintro e w' ⟨rfl, rfl⟩)
   | (go_at_call 95; refine (rreg_any _ _).mono ?_; rintro e w' ⟨rfl, rfl⟩)
   | (go_at_call_of 102 (Value.int .u8 65); refine (UA.out _).mono ?_; rintro e w' ⟨rfl, rfl⟩)
   | (go_at_call_of 102 (Value.int .u8 66); refine (UB.out _).mono ?_; rintro e w' ⟨rfl, rfl⟩)
   | (go_at_call_of 102 (Value.int .u8 67); refine (UC.out _).mono ?_; rintro e w' ⟨rfl, rfl⟩)
   | (go_at_call_of 102 (Value.int .u8 75); refine (UK.out _).mono ?_; rintro e w' ⟨rfl, rfl⟩)
   | (go_at_call_of 102 (Value.int .u8 83); refine (US.out _).mono ?_; rintro e w' ⟨rfl, rfl⟩)
   | (go_at_call_of 102 (Value.int .u8 73); refine (UI.out _).mono ?_; rintro e w' ⟨rfl, rfl⟩)
   | (go_at_call 71; refine (rsmall_any _ _).mono ?_; rintro e w' ⟨rfl, rfl⟩))
  go_ret
  refine ⟨ret_bool ?_, gal⟩
  go_light
  clear HR UA UB UC UK US UI HB
  rw [HM.out]
  clear HM
  first | (simp [*]; done) | (simp_all; done)
 cases e2 : Rc.regB b
 case false =>
  go_enter Tryz.func69, Tryz.ntmps69
  simp only [List.append]
  go_wp2_with (first
   | (go_at_call 72; refine (HR.out _).mono ?_; rintro e w' ⟨rfl, rfl⟩)
   | (go_at_call 95; refine (rreg_any _ _).mono ?_; rintro e w' ⟨rfl, rfl⟩)
   | (go_at_call_of 102 (Value.int .u8 65); refine (UA.out _).mono ?_; rintro e w' ⟨rfl, rfl⟩)
   | (go_at_call_of 102 (Value.int .u8 66); refine (UB.out _).mono ?_; rintro e w' ⟨rfl, rfl⟩)
   | (go_at_call_of 102 (Value.int .u8 67); refine (UC.out _).mono ?_; rintro e w' ⟨rfl, rfl⟩)
   | (go_at_call_of 102 (Value.int .u8 75); refine (UK.out _).mono ?_; rintro e w' ⟨rfl, rfl⟩)
   | (go_at_call_of 102 (Value.int .u8 83); refine (US.out _).mono ?_; rintro e w' ⟨rfl, rfl⟩)
   | (go_at_call_of 102 (Value.int .u8 73); refine (UI.out _).mono ?_; rintro e w' ⟨rfl, rfl⟩)
   | (go_at_call 71; refine (rsmall_any _ _).mono ?_; rintro e w' ⟨rfl, rfl⟩))
  go_ret
  refine ⟨ret_bool ?_, gal⟩
  go_light
  clear HR UA UB UC UK US UI HB
  rw [HM.out]
  clear HM
  first | (simp [*]; done) | (simp_all; done)
 cases e3 : Rc.regB c
 case false =>
  go_enter Tryz.func69, Tryz.ntmps69
  simp only [List.append]
  go_wp2_with (first
   | (go_at_call 72; refine (HR.out _).mono ?_; rintro e w' ⟨rfl, rfl⟩)
   | (go_at_call 95; refine (rreg_any _ _).mono ?_; rintro e w' ⟨rfl, rfl⟩)
   | (go_at_call_of 102 (Value.int .u8 65); refine (UA.out _).mono ?_; rintro e w' ⟨rfl, rfl⟩)
   | (go_at_call_of 102 (Value.int .u8 66); refine (UB.out _).mono ?_; rintro e w' ⟨rfl, rfl⟩)
   | (go_at_call_of 102 (Value.int .u8 67); refine (UC.out _).mono ?_; rintro e w' ⟨rfl, rfl⟩)
   | (go_at_call_of 102 (Value.int .u8 75); refine (UK.out _).mono ?_; rintro e w' ⟨rfl, rfl⟩)
   | (go_at_call_of 102 (Value.int .u8 83); refine (US.out _).mono ?_; rintro e w' ⟨rfl, rfl⟩)
   | (go_at_call_of 102 (Value.int .u8 73); refine (UI.out _).mono ?_; rintro e w' ⟨rfl, rfl⟩)
   | (go_at_call 71; refine (rsmall_any _ _).mono ?_; rintro e w' ⟨rfl, rfl⟩))
  go_ret
  refine ⟨ret_bool ?_, gal⟩
  go_light
  clear HR UA UB UC UK US UI HB
  rw [HM.out]
  clear HM
  first | (simp [*]; done) | (simp_all; done)
 cases e4 : (sub != 0)
 case true =>
  go_enter Tryz.func69, Tryz.ntmps69
  simp only [List.append]
  go_wp2_with (first
   | (go_at_call 72; refine (HR.out _).mono ?_; rintro e w' ⟨rfl, rfl⟩)
   | (go_at_call 95; refine (rreg_any _ _).mono ?_; rintro e w' ⟨rfl, rfl⟩)
   | (go_at_call_of 102 (Value.int .u8 65); refine (UA.out _).mono ?_; rintro e w' ⟨rfl, rfl⟩)
   | (go_at_call_of 102 (Value.int .u8 66); refine (UB.out _).mono ?_; rintro e w' ⟨rfl, rfl⟩)
   | (go_at_call_of 102 (Value.int .u8 67); refine (UC.out _).mono ?_; rintro e w' ⟨rfl, rfl⟩)
   | (go_at_call_of 102 (Value.int .u8 75); refine (UK.out _).mono ?_; rintro e w' ⟨rfl, rfl⟩)
   | (go_at_call_of 102 (Value.int .u8 83); refine (US.out _).mono ?_; rintro e w' ⟨rfl, rfl⟩)
   | (go_at_call_of 102 (Value.int .u8 73); refine (UI.out _).mono ?_; rintro e w' ⟨rfl, rfl⟩)
   | (go_at_call 71; refine (rsmall_any _ _).mono ?_; rintro e w' ⟨rfl, rfl⟩))
  go_ret
  refine ⟨ret_bool ?_, gal⟩
  go_light
  clear HR UA UB UC UK US UI HB
  rw [HM.out]
  clear HM
  first | (simp [*]; done) | (simp_all; done)
 cases e5 : Rc.smallB imm
 case false =>
  go_enter Tryz.func69, Tryz.ntmps69
  simp only [List.append]
  go_wp2_with (first
   | (go_at_call 72; refine (HR.out _).mono ?_; rintro e w' ⟨rfl, rfl⟩)
   | (go_at_call 95; refine (rreg_any _ _).mono ?_; rintro e w' ⟨rfl, rfl⟩)
   | (go_at_call_of 102 (Value.int .u8 65); refine (UA.out _).mono ?_; rintro e w' ⟨rfl, rfl⟩)
   | (go_at_call_of 102 (Value.int .u8 66); refine (UB.out _).mono ?_; rintro e w' ⟨rfl, rfl⟩)
   | (go_at_call_of 102 (Value.int .u8 67); refine (UC.out _).mono ?_; rintro e w' ⟨rfl, rfl⟩)
   | (go_at_call_of 102 (Value.int .u8 75); refine (UK.out _).mono ?_; rintro e w' ⟨rfl, rfl⟩)
   | (go_at_call_of 102 (Value.int .u8 83); refine (US.out _).mono ?_; rintro e w' ⟨rfl, rfl⟩)
   | (go_at_call_of 102 (Value.int .u8 73); refine (UI.out _).mono ?_; rintro e w' ⟨rfl, rfl⟩)
   | (go_at_call 71; refine (rsmall_any _ _).mono ?_; rintro e w' ⟨rfl, rfl⟩))
  go_ret
  refine ⟨ret_bool ?_, gal⟩
  go_light
  clear HR UA UB UC UK US UI HB
  rw [HM.out]
  clear HM
  first | (simp [*]; done) | (simp_all; done)
 cases SB
 case false =>
  go_enter Tryz.func69, Tryz.ntmps69
  simp only [List.append]
  go_wp2_with (first
   | (go_at_call 72; refine (HR.out _).mono ?_; rintro e w' ⟨rfl, rfl⟩)
   | (go_at_call 95; refine (rreg_any _ _).mono ?_; rintro e w' ⟨rfl, rfl⟩)
   | (go_at_call_of 102 (Value.int .u8 65); refine (UA.out _).mono ?_; rintro e w' ⟨rfl, rfl⟩)
   | (go_at_call_of 102 (Value.int .u8 66); refine (UB.out _).mono ?_; rintro e w' ⟨rfl, rfl⟩)
   | (go_at_call_of 102 (Value.int .u8 67); refine (UC.out _).mono ?_; rintro e w' ⟨rfl, rfl⟩)
   | (go_at_call_of 102 (Value.int .u8 75); refine (UK.out _).mono ?_; rintro e w' ⟨rfl, rfl⟩)
   | (go_at_call_of 102 (Value.int .u8 83); refine (US.out _).mono ?_; rintro e w' ⟨rfl, rfl⟩)
   | (go_at_call_of 102 (Value.int .u8 73); refine (UI.out _).mono ?_; rintro e w' ⟨rfl, rfl⟩)
   | (go_at_call 71; refine (rsmall_any _ _).mono ?_; rintro e w' ⟨rfl, rfl⟩)
   | (go_at_call 101; refine (rword_any _ _).mono ?_; rintro e w' ⟨rfl, rfl⟩)
   | (go_at_call 107; refine (HB.out _).mono ?_; rintro e w2 ⟨rfl, g2⟩; have xk := ((InstAt.new w ⟨12, a, b, c, k, sub, sc, imm, lb⟩).kept g2 (by simp)).5))
  go_ret
  refine ⟨ret_bool ?_, gtr gal g2⟩
  go_light
  clear HR UA UB UC UK US UI HB
  rw [HM.out]
  clear HM
  first | (simp [*]; done) | (simp_all; done)
 go_enter Tryz.func69, Tryz.ntmps69
 simp only [List.append]
 go_wp2_with (first
  | (go_at_call 72; refine (HR.out _).mono ?_; rintro e w' ⟨rfl, rfl⟩)
  | (go_at_call 95; refine (rreg_any _ _).mono ?_; rintro e w' ⟨rfl, rfl⟩)
  | (go_at_call_of 102 (Value.int .u8 65); refine (UA.out _).mono ?_; rintro e w' ⟨rfl, rfl⟩)
  | (go_at_call_of 102 (Value.int .u8 66); refine (UB.out _).mono ?_; rintro e w' ⟨rfl, rfl⟩)
  | (go_at_call_of 102 (Value.int .u8 67); refine (UC.out _).mono ?_; rintro e w' ⟨rfl, rfl⟩)
  | (go_at_call_of 102 (Value.int .u8 75); refine (UK.out _).mono ?_; rintro e w' ⟨rfl, rfl⟩)
  | (go_at_call_of 102 (Value.int .u8 83); refine (US.out _).mono ?_; rintro e w' ⟨rfl, rfl⟩)
  | (go_at_call_of 102 (Value.int .u8 73); refine (UI.out _).mono ?_; rintro e w' ⟨rfl, rfl⟩)
  | (go_at_call 71; refine (rsmall_any _ _).mono ?_; rintro e w' ⟨rfl, rfl⟩)
  | (go_at_call 101; refine (rword_any _ _).mono ?_; rintro e w' ⟨rfl, rfl⟩)
  | (go_at_call 107; refine (HB.out _).mono ?_; rintro e w2 ⟨rfl, g2⟩; have xk := ((InstAt.new w ⟨12, a, b, c, k, sub, sc, imm, lb⟩).kept g2 (by simp)).5))
 go_ret
 refine ⟨ret_bool ?_, gtr gal g2⟩
 go_light
 clear HR UA UB UC UK US UI HB
 rw [HM.out]
 clear HM
 first | (simp [*]; done) | (simp_all; done)
theorem may_14 (a b c k sub sc imm lb : Int) : Cc.mayB ⟨14, a, b, c, k, sub, sc, imm, lb⟩ = ((lb == 0) && Rc.regB a && Rc.regB b && Rc.regB c && (sub == 0) && Rc.smallB imm && (Cc.sclB ⟨14, a, b, c, k, sub, sc, imm, lb⟩ && Wd.wordB k)) := by
 show (true && (lb == 0) && Rc.regB a && Rc.regB b && Rc.regB c && (true || a == 0) && (true || b == 0) && (true || (c == 0 && sc == 0)) && (true || k == 0) && (false || sub == 0) && (true || imm == 0) && (false || Rc.smallB imm) && (Cc.sclB ⟨14, a, b, c, k, sub, sc, imm, lb⟩ && Wd.wordB k)) = _
 simp only [Bool.true_and, Bool.and_true, Bool.true_or, Bool.false_or, Bool.and_assoc]
theorem rmay_14 (a b c k sub sc imm lb : Int) (w : World) (h1 : -9223372036854775808 ≤ imm) (h2 : imm ≤ 9223372036854775807) :
  Calls Tryz.prog 69 #[.agg #[.int .i64 14, .int .i64 a, .int .i64 b, .int .i64 c, .int .i64 k, .int .i64 sub, .int .i64 sc, .int .i64 imm, .int .i64 lb]] w fun e w' => e = .returned (.bool (Cc.mayB ⟨14, a, b, c, k, sub, sc, imm, lb⟩)) ∧ w.grownBy w' none := by
 have HM : Hid (Cc.mayB ⟨14, a, b, c, k, sub, sc, imm, lb⟩ = ((lb == 0) && Rc.regB a && Rc.regB b && Rc.regB c && (sub == 0) && Rc.smallB imm && (Cc.sclB ⟨14, a, b, c, k, sub, sc, imm, lb⟩ && Wd.wordB k))) := may_14 a b c k sub sc imm lb
 have HR : Hid (∀ W, Calls Tryz.prog 72 #[.int .i64 14] W fun e w' => e = .returned (.string ⟨#[97, 99, 75, 52]⟩) ∧ w' = W) := rrow_any 14
 have UA : Hid (∀ W, Calls Tryz.prog 102 #[.int .i64 14, .int .u8 65] W fun e w' => e = .returned (.bool true) ∧ w' = W) := ruses_any 14 65
 have UB : Hid (∀ W, Calls Tryz.prog 102 #[.int .i64 14, .int .u8 66] W fun e w' => e = .returned (.bool true) ∧ w' = W) := ruses_any 14 66
 have UC : Hid (∀ W, Calls Tryz.prog 102 #[.int .i64 14, .int .u8 67] W fun e w' => e = .returned (.bool true) ∧ w' = W) := ruses_any 14 67
 have UK : Hid (∀ W, Calls Tryz.prog 102 #[.int .i64 14, .int .u8 75] W fun e w' => e = .returned (.bool true) ∧ w' = W) := ruses_any 14 75
 have US : Hid (∀ W, Calls Tryz.prog 102 #[.int .i64 14, .int .u8 83] W fun e w' => e = .returned (.bool false) ∧ w' = W) := ruses_any 14 83
 have UI : Hid (∀ W, Calls Tryz.prog 102 #[.int .i64 14, .int .u8 73] W fun e w' => e = .returned (.bool true) ∧ w' = W) := ruses_any 14 73
 have HB : Hid (∀ W, Calls Tryz.prog 107 #[.agg #[.int .i64 14, .int .i64 a, .int .i64 b, .int .i64 c, .int .i64 k, .int .i64 sub, .int .i64 sc, .int .i64 imm, .int .i64 lb]] W fun e w' => e = .returned (.bool (Cc.sclB ⟨14, a, b, c, k, sub, sc, imm, lb⟩)) ∧ W.grownBy w' none) := rscaled_at 14 a b c k sub sc imm lb
 generalize Cc.sclB ⟨14, a, b, c, k, sub, sc, imm, lb⟩ = SB at *
 cases e0 : (lb != 0)
 case true =>
  go_enter Tryz.func69, Tryz.ntmps69
  simp only [List.append]
  go_wp2_with (first
   | (go_at_call 72; refine (HR.out _).mono ?_; rintro e w' ⟨rfl, rfl⟩)
   | (go_at_call 95; refine (rreg_any _ _).mono ?_; rintro e w' ⟨rfl, rfl⟩)
   | (go_at_call_of 102 (Value.int .u8 65); refine (UA.out _).mono ?_; rintro e w' ⟨rfl, rfl⟩)
   | (go_at_call_of 102 (Value.int .u8 66); refine (UB.out _).mono ?_; rintro e w' ⟨rfl, rfl⟩)
   | (go_at_call_of 102 (Value.int .u8 67); refine (UC.out _).mono ?_; rintro e w' ⟨rfl, rfl⟩)
   | (go_at_call_of 102 (Value.int .u8 75); refine (UK.out _).mono ?_; rintro e w' ⟨rfl, rfl⟩)
   | (go_at_call_of 102 (Value.int .u8 83); refine (US.out _).mono ?_; rintro e w' ⟨rfl, rfl⟩)
   | (go_at_call_of 102 (Value.int .u8 73); refine (UI.out _).mono ?_; rintro e w' ⟨rfl, rfl⟩)
   | (go_at_call 71; refine (rsmall_any _ _).mono ?_; rintro e w' ⟨rfl, rfl⟩))
  go_ret
  refine ⟨ret_bool ?_, gal⟩
  go_light
  clear HR UA UB UC UK US UI HB
  rw [HM.out]
  clear HM
  first | (simp [*]; done) | (simp_all; done)
 cases e1 : Rc.regB a
 case false =>
  go_enter Tryz.func69, Tryz.ntmps69
  simp only [List.append]
  go_wp2_with (first
   | (go_at_call 72; refine (HR.out _).mono ?_; rintro e w' ⟨rfl, rfl⟩)
   | (go_at_call 95; refine (rreg_any _ _).mono ?_; rintro e w' ⟨rfl, rfl⟩)
   | (go_at_call_of 102 (Value.int .u8 65); refine (UA.out _).mono ?_; rintro e w' ⟨rfl, rfl⟩)
   | (go_at_call_of 102 (Value.int .u8 66); refine (UB.out _).mono ?_; rintro e w' ⟨rfl, rfl⟩)
   | (go_at_call_of 102 (Value.int .u8 67); refine (UC.out _).mono ?_; rintro e w' ⟨rfl, rfl⟩)
   | (go_at_call_of 102 (Value.int .u8 75); refine (UK.out _).mono ?_; rintro e w' ⟨rfl, rfl⟩)
   | (go_at_call_of 102 (Value.int .u8 83); refine (US.out _).mono ?_; rintro e w' ⟨rfl, rfl⟩)
   | (go_at_call_of 102 (Value.int .u8 73); refine (UI.out _).mono ?_; rintro e w' ⟨rfl, rfl⟩)
   | (go_at_call 71; refine (rsmall_any _ _).mono ?_; rintro e w' ⟨rfl, rfl⟩))
  go_ret
  refine ⟨ret_bool ?_, gal⟩
  go_light
  clear HR UA UB UC UK US UI HB
  rw [HM.out]
  clear HM
  first | (simp [*]; done) | (simp_all; done)
 cases e2 : Rc.regB b
 case false =>
  go_enter Tryz.func69, Tryz.ntmps69
  simp only [List.append]
  go_wp2_with (first
   | (go_at_call 72; refine (HR.out _).mono ?_; rintro e w' ⟨rfl, rfl⟩)
   | (go_at_call 95; refine (rreg_any _ _).mono ?_; rintro e w' ⟨rfl, rfl⟩)
   | (go_at_call_of 102 (Value.int .u8 65); refine (UA.out _).mono ?_; rintro e w' ⟨rfl, rfl⟩)
   | (go_at_call_of 102 (Value.int .u8 66); refine (UB.out _).mono ?_; rintro e w' ⟨rfl, rfl⟩)
   | (go_at_call_of 102 (Value.int .u8 67); refine (UC.out _).mono ?_; rintro e w' ⟨rfl, rfl⟩)
   | (go_at_call_of 102 (Value.int .u8 75); refine (UK.out _).mono ?_; rintro e w' ⟨rfl, rfl⟩)
   | (go_at_call_of 102 (Value.int .u8 83); refine (US.out _).mono ?_; rintro e w' ⟨rfl, rfl⟩)
   | (go_at_call_of 102 (Value.int .u8 73); refine (UI.out _).mono ?_; rintro e w' ⟨rfl, rfl⟩)
   | (go_at_call 71; refine (rsmall_any _ _).mono ?_; rintro e w' ⟨rfl, rfl⟩))
  go_ret
  refine ⟨ret_bool ?_, gal⟩
  go_light
  clear HR UA UB UC UK US UI HB
  rw [HM.out]
  clear HM
  first | (simp [*]; done) | (simp_all; done)
 cases e3 : Rc.regB c
 case false =>
  go_enter Tryz.func69, Tryz.ntmps69
  simp only [List.append]
  go_wp2_with (first
   | (go_at_call 72; refine (HR.out _).mono ?_; rintro e w' ⟨rfl, rfl⟩)
   | (go_at_call 95; refine (rreg_any _ _).mono ?_; rintro e w' ⟨rfl, rfl⟩)
   | (go_at_call_of 102 (Value.int .u8 65); refine (UA.out _).mono ?_; rintro e w' ⟨rfl, rfl⟩)
   | (go_at_call_of 102 (Value.int .u8 66); refine (UB.out _).mono ?_; rintro e w' ⟨rfl, rfl⟩)
   | (go_at_call_of 102 (Value.int .u8 67); refine (UC.out _).mono ?_; rintro e w' ⟨rfl, rfl⟩)
   | (go_at_call_of 102 (Value.int .u8 75); refine (UK.out _).mono ?_; rintro e w' ⟨rfl, rfl⟩)
   | (go_at_call_of 102 (Value.int .u8 83); refine (US.out _).mono ?_; rintro e w' ⟨rfl, rfl⟩)
   | (go_at_call_of 102 (Value.int .u8 73); refine (UI.out _).mono ?_; rintro e w' ⟨rfl, rfl⟩)
   | (go_at_call 71; refine (rsmall_any _ _).mono ?_; rintro e w' ⟨rfl, rfl⟩))
  go_ret
  refine ⟨ret_bool ?_, gal⟩
  go_light
  clear HR UA UB UC UK US UI HB
  rw [HM.out]
  clear HM
  first | (simp [*]; done) | (simp_all; done)
 cases e4 : (sub != 0)
 case true =>
  go_enter Tryz.func69, Tryz.ntmps69
  simp only [List.append]
  go_wp2_with (first
   | (go_at_call 72; refine (HR.out _).mono ?_; rintro e w' ⟨rfl, rfl⟩)
   | (go_at_call 95; refine (rreg_any _ _).mono ?_; rintro e w' ⟨rfl, rfl⟩)
   | (go_at_call_of 102 (Value.int .u8 65); refine (UA.out _).mono ?_; rintro e w' ⟨rfl, rfl⟩)
   | (go_at_call_of 102 (Value.int .u8 66); refine (UB.out _).mono ?_; rintro e w' ⟨rfl, rfl⟩)
   | (go_at_call_of 102 (Value.int .u8 67); refine (UC.out _).mono ?_; rintro e w' ⟨rfl, rfl⟩)
   | (go_at_call_of 102 (Value.int .u8 75); refine (UK.out _).mono ?_; rintro e w' ⟨rfl, rfl⟩)
   | (go_at_call_of 102 (Value.int .u8 83); refine (US.out _).mono ?_; rintro e w' ⟨rfl, rfl⟩)
   | (go_at_call_of 102 (Value.int .u8 73); refine (UI.out _).mono ?_; rintro e w' ⟨rfl, rfl⟩)
   | (go_at_call 71; refine (rsmall_any _ _).mono ?_; rintro e w' ⟨rfl, rfl⟩))
  go_ret
  refine ⟨ret_bool ?_, gal⟩
  go_light
  clear HR UA UB UC UK US UI HB
  rw [HM.out]
  clear HM
  first | (simp [*]; done) | (simp_all; done)
 cases e5 : Rc.smallB imm
 case false =>
  go_enter Tryz.func69, Tryz.ntmps69
  simp only [List.append]
  go_wp2_with (first
   | (go_at_call 72; refine (HR.out _).mono ?_; rintro e w' ⟨rfl, rfl⟩)
   | (go_at_call 95; refine (rreg_any _ _).mono ?_; rintro e w' ⟨rfl, rfl⟩)
   | (go_at_call_of 102 (Value.int .u8 65); refine (UA.out _).mono ?_; rintro e w' ⟨rfl, rfl⟩)
   | (go_at_call_of 102 (Value.int .u8 66); refine (UB.out _).mono ?_; rintro e w' ⟨rfl, rfl⟩)
   | (go_at_call_of 102 (Value.int .u8 67); refine (UC.out _).mono ?_; rintro e w' ⟨rfl, rfl⟩)
   | (go_at_call_of 102 (Value.int .u8 75); refine (UK.out _).mono ?_; rintro e w' ⟨rfl, rfl⟩)
   | (go_at_call_of 102 (Value.int .u8 83); refine (US.out _).mono ?_; rintro e w' ⟨rfl, rfl⟩)
   | (go_at_call_of 102 (Value.int .u8 73); refine (UI.out _).mono ?_; rintro e w' ⟨rfl, rfl⟩)
   | (go_at_call 71; refine (rsmall_any _ _).mono ?_; rintro e w' ⟨rfl, rfl⟩))
  go_ret
  refine ⟨ret_bool ?_, gal⟩
  go_light
  clear HR UA UB UC UK US UI HB
  rw [HM.out]
  clear HM
  first | (simp [*]; done) | (simp_all; done)
 cases SB
 case false =>
  go_enter Tryz.func69, Tryz.ntmps69
  simp only [List.append]
  go_wp2_with (first
   | (go_at_call 72; refine (HR.out _).mono ?_; rintro e w' ⟨rfl, rfl⟩)
   | (go_at_call 95; refine (rreg_any _ _).mono ?_; rintro e w' ⟨rfl, rfl⟩)
   | (go_at_call_of 102 (Value.int .u8 65); refine (UA.out _).mono ?_; rintro e w' ⟨rfl, rfl⟩)
   | (go_at_call_of 102 (Value.int .u8 66); refine (UB.out _).mono ?_; rintro e w' ⟨rfl, rfl⟩)
   | (go_at_call_of 102 (Value.int .u8 67); refine (UC.out _).mono ?_; rintro e w' ⟨rfl, rfl⟩)
   | (go_at_call_of 102 (Value.int .u8 75); refine (UK.out _).mono ?_; rintro e w' ⟨rfl, rfl⟩)
   | (go_at_call_of 102 (Value.int .u8 83); refine (US.out _).mono ?_; rintro e w' ⟨rfl, rfl⟩)
   | (go_at_call_of 102 (Value.int .u8 73); refine (UI.out _).mono ?_; rintro e w' ⟨rfl, rfl⟩)
   | (go_at_call 71; refine (rsmall_any _ _).mono ?_; rintro e w' ⟨rfl, rfl⟩)
   | (go_at_call 101; refine (rword_any _ _).mono ?_; rintro e w' ⟨rfl, rfl⟩)
   | (go_at_call 107; refine (HB.out _).mono ?_; rintro e w2 ⟨rfl, g2⟩; have xk := ((InstAt.new w ⟨14, a, b, c, k, sub, sc, imm, lb⟩).kept g2 (by simp)).5))
  go_ret
  refine ⟨ret_bool ?_, gtr gal g2⟩
  go_light
  clear HR UA UB UC UK US UI HB
  rw [HM.out]
  clear HM
  first | (simp [*]; done) | (simp_all; done)
 go_enter Tryz.func69, Tryz.ntmps69
 simp only [List.append]
 go_wp2_with (first
  | (go_at_call 72; refine (HR.out _).mono ?_; rintro e w' ⟨rfl, rfl⟩)
  | (go_at_call 95; refine (rreg_any _ _).mono ?_; rintro e w' ⟨rfl, rfl⟩)
  | (go_at_call_of 102 (Value.int .u8 65); refine (UA.out _).mono ?_; rintro e w' ⟨rfl, rfl⟩)
  | (go_at_call_of 102 (Value.int .u8 66); refine (UB.out _).mono ?_; rintro e w' ⟨rfl, rfl⟩)
  | (go_at_call_of 102 (Value.int .u8 67); refine (UC.out _).mono ?_; rintro e w' ⟨rfl, rfl⟩)
  | (go_at_call_of 102 (Value.int .u8 75); refine (UK.out _).mono ?_; rintro e w' ⟨rfl, rfl⟩)
  | (go_at_call_of 102 (Value.int .u8 83); refine (US.out _).mono ?_; rintro e w' ⟨rfl, rfl⟩)
  | (go_at_call_of 102 (Value.int .u8 73); refine (UI.out _).mono ?_; rintro e w' ⟨rfl, rfl⟩)
  | (go_at_call 71; refine (rsmall_any _ _).mono ?_; rintro e w' ⟨rfl, rfl⟩)
  | (go_at_call 101; refine (rword_any _ _).mono ?_; rintro e w' ⟨rfl, rfl⟩)
  | (go_at_call 107; refine (HB.out _).mono ?_; rintro e w2 ⟨rfl, g2⟩; have xk := ((InstAt.new w ⟨14, a, b, c, k, sub, sc, imm, lb⟩).kept g2 (by simp)).5))
 go_ret
 refine ⟨ret_bool ?_, gtr gal g2⟩
 go_light
 clear HR UA UB UC UK US UI HB
 rw [HM.out]
 clear HM
 first | (simp [*]; done) | (simp_all; done)
end Go.Proofs.YtkiockffejlnhaaGreatDoor
