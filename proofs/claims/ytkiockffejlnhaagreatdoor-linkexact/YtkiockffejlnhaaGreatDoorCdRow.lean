/- cisc.row: its contract. -/
import Derived.Test.YtkiockffejlnhaaGreatDoorG4
namespace Go.Proofs.YtkiockffejlnhaaGreatDoor
set_option maxRecDepth 100000
set_option maxHeartbeats 32000000
open Go.RowKit
set_option linter.unusedVariables false
namespace Cc
def prt (op : Int) : List Int :=
 if op = 1 then [2, 8, 0, 0] else if op = 3 ∨ op = 26 ∨ op = 27 ∨ op = 28 then [1, 0, 0, 0] else if op = 4 ∨ op = 7 ∨ op = 8 then [1, 4, 5, 0] else if op = 5 then [2, 4, 5, 8]
 else if op = 6 then [1, 4, 5, 9] else if op = 10 then [1, 3, 9, 0] else if op = 11 ∨ op = 13 then [1, 4, 9, 0] else if op = 12 ∨ op = 14 then [1, 3, 4, 9]
 else if op = 15 ∨ op = 18 then [1, 5, 0, 0] else if op = 16 then [1, 4, 0, 0] else if op = 17 then [2, 4, 8, 0] else if op = 19 then [6, 8, 0, 0] else if op = 22 then [7, 8, 0, 0]
 else if op = 23 ∨ op = 25 ∨ op = 29 then [9, 0, 0, 0] else [0, 0, 0, 0]
theorem ops (o : Int) : o = 1 ∨ o = 3 ∨ o = 4 ∨ o = 5 ∨ o = 6 ∨ o = 7 ∨ o = 8 ∨ o = 10 ∨ o = 11 ∨ o = 12 ∨ o = 13 ∨ o = 14 ∨ o = 15 ∨ o = 16 ∨ o = 17 ∨ o = 18 ∨ o = 19 ∨ o = 22 ∨ o = 23 ∨ o = 24 ∨ o = 25 ∨ o = 26 ∨ o = 27 ∨ o = 28 ∨ o = 29 ∨
  ((o == 1) = false ∧ (o == 3) = false ∧ (o == 4) = false ∧ (o == 5) = false ∧ (o == 6) = false ∧ (o == 7) = false ∧ (o == 8) = false ∧ (o == 10) = false ∧ (o == 11) = false ∧ (o == 12) = false ∧ (o == 13) = false ∧ (o == 14) = false ∧ (o == 15) = false ∧ (o == 16) = false ∧ (o == 17) = false ∧ (o == 18) = false ∧ (o == 19) = false ∧ (o == 22) = false ∧ (o == 23) = false ∧ (o == 24) = false ∧ (o == 25) = false ∧ (o == 26) = false ∧ (o == 27) = false ∧ (o == 28) = false ∧ (o == 29) = false) := by
 simp only [beq_eq_false_iff_ne, ne_eq]
 omega
theorem row_none {o : Int} (h : (o == 1) = false ∧ (o == 3) = false ∧ (o == 4) = false ∧ (o == 5) = false ∧ (o == 6) = false ∧ (o == 7) = false ∧ (o == 8) = false ∧ (o == 10) = false ∧ (o == 11) = false ∧ (o == 12) = false ∧ (o == 13) = false ∧ (o == 14) = false ∧ (o == 15) = false ∧ (o == 16) = false ∧ (o == 17) = false ∧ (o == 18) = false ∧ (o == 19) = false ∧ (o == 22) = false ∧ (o == 23) = false ∧ (o == 24) = false ∧ (o == 25) = false ∧ (o == 26) = false ∧ (o == 27) = false ∧ (o == 28) = false ∧ (o == 29) = false) : row o = [] ∧ prt o = [0, 0, 0, 0] := by
 simp only [beq_eq_false_iff_ne, ne_eq] at h
 unfold row prt
 simp [h]
end Cc
theorem crow_any (o : Int) (w : World) :
  Calls Tryz.prog 116 #[.int .i64 o] w fun e w' => e = .returned (.tuple #[.agg #[.int .i64 ((Cc.prt o).getD 0 0), .int .i64 ((Cc.prt o).getD 1 0), .int .i64 ((Cc.prt o).getD 2 0), .int .i64 ((Cc.prt o).getD 3 0)], .bool (!(Cc.row o).isEmpty)]) ∧ w.grownBy w' none := by
 rcases Cc.ops o with rfl | rfl | rfl | rfl | rfl | rfl | rfl | rfl | rfl | rfl | rfl | rfl | rfl | rfl | rfl | rfl | rfl | rfl | rfl | rfl | rfl | rfl | rfl | rfl | rfl | h
 case inr.inr.inr.inr.inr.inr.inr.inr.inr.inr.inr.inr.inr.inr.inr.inr.inr.inr.inr.inr.inr.inr.inr.inr.inr =>
  have hn := Cc.row_none h
  rw [hn.1, hn.2]
  clear hn
  obtain ⟨a1, a3, a4, a5, a6, a7, a8, a10, a11, a12, a13, a14, a15, a16, a17, a18, a19, a22, a23, a24, a25, a26, a27, a28, a29⟩ := h
  go_enter Tryz.func116, Tryz.ntmps116
  go_wp2
  go_returns
  exact ⟨rfl, gal⟩
 all_goals
  go_enter Tryz.func116, Tryz.ntmps116
  go_wp2
  go_returns
  exact ⟨rfl, gal⟩
end Go.Proofs.YtkiockffejlnhaaGreatDoor
