/- gantryref3.May: its contract. -/
import Derived.Test.YtkpmhgkljedapaaRcDefs
namespace Go.Proofs.Ytkpmhgkljedapaa
open Go.RowKit
set_option linter.unusedVariables false

namespace Rc
theorem fld_size (o : Int) : (fld o).size ≤ 1000 := by
  unfold fld
  repeat' split
  all_goals decide
/-- is a field 0, unless it is used? -/
def unB (s : ByteArray) (c n : Int) : Bool := hasS s c || n == 0
def kindC (v : InV) : Bool :=
  cond (v.op == 4) (Wd.hasBinB v.sub v.k) (cond (v.op == 7) (Wd.hasUnB v.sub v.k) (cond (v.op == 8) (Wd.numB v.sub && Wd.numB v.k) (cond (v.op == 11) (Wd.wordB v.k) (cond (v.op == 13) (Wd.wordB v.k)
  (cond (v.op == 15) (decide (0 ≤ v.imm) && decide (v.imm < 16)) (cond (v.op == 25) (decide (0 ≤ v.imm)) (cond (v.op == 29) (decide (0 < v.imm)) true)))))))
theorem kind_c (v : InV) : kindB v = kindC v := by
  unfold kindB kindC
  simp only [Bool.cond_eq_ite, beq_iff_eq]
  repeat' split
  all_goals first | rfl | omega
theorem may_un (v : InV) (h : (fld v.op).data.isEmpty = false) : mayB v = (v.scale == 0 && v.label == 0 && regB v.a && regB v.b && regB v.c && smallB v.imm &&
    unB (fld v.op) 65 v.a && unB (fld v.op) 66 v.b && unB (fld v.op) 67 v.c && unB (fld v.op) 75 v.k && unB (fld v.op) 83 v.sub && (hasS (fld v.op) 73 || v.imm == 0) && kindC v) := by
  rw [← kind_c]; unfold mayB unB; rw [h]; rfl
theorem may_no (v : InV) (h : (fld v.op).data.isEmpty = true) : mayB v = false := by
  unfold mayB; rw [h]; rfl
theorem toList_nil (s : ByteArray) : s.toList = s.data.toList := by rw [ByteArray.toList_eq]
end Rc
theorem unusedU (s : ByteArray) (c n : Int) (w : World) (hs : s.size ≤ 1000) :
    Calls Try.prog 22 #[.string s, .int .u8 c, .int .i64 n] w fun e w' => e = .returned (.bool (Rc.unB s c n)) ∧ w' = w := unused_any s c n w hs

set_option maxHeartbeats 8000000 in
theorem rmay_empty (v : InV) (w : World) (h1 : (Rc.fld v.op).toList = []) :
    Calls Try.prog 7 #[inst v] w fun e w' => e = .returned (.bool false) ∧ w' = w.alloc (Obj.cells #[.int .i64 v.op, .int .i64 v.a, .int .i64 v.b, .int .i64 v.c, .int .i64 v.k, .int .i64 v.sub, .int .i64 v.scale, .int .i64 v.imm, .int .i64 v.label] 28) := by
  unfold inst
  go_enter Try.func7, Try.ntmps7
  go_wp2_with (go_at_call 19; refine (fields_any _ _).mono ?_; rintro e w' ⟨rfl, rfl⟩)
  go_ret
  exact ⟨rfl, rfl⟩

set_option maxHeartbeats 8000000 in
theorem rmay_full (v : InV) (w : World) (h1 : ((Rc.fld v.op).toList = []) = False) (h2 : (Rc.fld v.op).toList.isEmpty = false) (h3 : ((Rc.fld v.op).toList == []) = false) (h4 : (Rc.fld v.op).data.isEmpty = false) :
    Calls Try.prog 7 #[inst v] w fun e w' => e = .returned (.bool (Rc.mayB v)) ∧ w' = w.alloc (Obj.cells #[.int .i64 v.op, .int .i64 v.a, .int .i64 v.b, .int .i64 v.c, .int .i64 v.k, .int .i64 v.sub, .int .i64 v.scale, .int .i64 v.imm, .int .i64 v.label] 28) := by
  have hs := Rc.fld_size v.op
  have HM : Hid (Rc.mayB v = _) := Rc.may_un v h4
  clear h4
  unfold inst
  go_enter Try.func7, Try.ntmps7
  go_wp2_with (first
    | (go_at_call 19; refine (fields_any _ _).mono ?_; rintro e w' ⟨rfl, rfl⟩)
    | (go_at_call 20; refine (rreg_any _ _).mono ?_; rintro e w' ⟨rfl, rfl⟩)
    | (go_at_call 21; refine (rsmall_any _ _).mono ?_; rintro e w' ⟨rfl, rfl⟩)
    | (go_at_call 22; refine (unusedU _ _ _ _ hs).mono ?_; rintro e w' ⟨rfl, rfl⟩)
    | (go_at_call 23; refine (has_any _ _ _ hs).mono ?_; rintro e w' ⟨rfl, rfl⟩)
    | (go_at_call 24; refine (rhasBin_any _ _ _).mono ?_; rintro e w' ⟨rfl, rfl⟩)
    | (go_at_call 25; refine (rhasUn_any _ _ _).mono ?_; rintro e w' ⟨rfl, rfl⟩)
    | (go_at_call 26; refine (rhasConv_any _ _ _).mono ?_; rintro e w' ⟨rfl, rfl⟩)
    | (go_at_call 27; refine (rword_any _ _).mono ?_; rintro e w' ⟨rfl, rfl⟩))
  all_goals
    go_ret
    refine ⟨ret_bool ?_, by first | rfl | (simp only [*]; done) | (simp [*]; done) | (simp_all; done)⟩
    rw [HM.out]
    generalize Rc.unB (Rc.fld v.op) 65 v.a = u1 at *
    generalize Rc.unB (Rc.fld v.op) 66 v.b = u2 at *
    generalize Rc.unB (Rc.fld v.op) 67 v.c = u3 at *
    generalize Rc.unB (Rc.fld v.op) 75 v.k = u4 at *
    generalize Rc.unB (Rc.fld v.op) 83 v.sub = u5 at *
    generalize Rc.hasS (Rc.fld v.op) 73 = u6 at *
    unfold Rc.kindC
    first | (simp [*]; done) | (simp_all; done) | (simp_all; omega)

theorem rmay_w (v : InV) (w : World) :
    Calls Try.prog 7 #[inst v] w fun e w' => e = .returned (.bool (Rc.mayB v)) ∧ w' = w.alloc (Obj.cells #[.int .i64 v.op, .int .i64 v.a, .int .i64 v.b, .int .i64 v.c, .int .i64 v.k, .int .i64 v.sub, .int .i64 v.scale, .int .i64 v.imm, .int .i64 v.label] 28) := by
  have e := Rc.toList_nil (Rc.fld v.op)
  cases h : (Rc.fld v.op).data.isEmpty
  · have h0 : (Rc.fld v.op).toList ≠ [] := by rw [e]; simpa using h
    exact rmay_full v w (eq_false h0) (by simpa using h0) (by simpa using h0) h
  · rw [Rc.may_no v h]
    exact rmay_empty v w (by rw [e]; simpa using h)
theorem rmay_any (v : InV) (w : World) :
    Calls Try.prog 7 #[inst v] w fun e w' => e = .returned (.bool (Rc.mayB v)) ∧ w.grownBy w' none :=
  (rmay_w v w).mono fun _ _ ⟨h1, h2⟩ => ⟨h1, h2 ▸ World.grownBy_alloc _ _ _⟩

end Go.Proofs.Ytkpmhgkljedapaa
