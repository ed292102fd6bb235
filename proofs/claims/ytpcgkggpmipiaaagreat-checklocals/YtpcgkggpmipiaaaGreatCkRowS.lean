/- The rows of statements. -/
import Derived.Test.YtpcgkggpmipiaaaGreatG18
import Derived.Test.YtpcgkggpmipiaaaGreatCkRow
import Derived.Test.YtpcgkggpmipiaaaGreatCkS1
namespace Go.Proofs.YtpcgkggpmipiaaaGreat
open Go.RowKit
set_option linter.unusedVariables false
set_option maxRecDepth 100000
set_option maxHeartbeats 4000000
def Ck.pJ (n d a b : Bool) : Int := (bif n then 2 else 0) + (bif d then 8 else 0) + (bif a then 16 else 0) + (bif b then 32 else 0)
def sfn (op : Int) : FuncId :=
 if op = 1 then 188
 else if op = 2 then 189
 else if op = 3 then 190
 else if op = 4 then 191
 else if op = 5 then 192
 else if op = 6 then 192
 else if op = 7 then 193
 else if op = 8 then 194
 else if op = 9 then 195
 else if op = 10 then 196
 else 0
def rowS (op : Int) : Value := match Ck.srow op with
 | none => rowA 0 0 .nilFunc
 | some (n, d, a, b, m) => rowA (Ck.pJ n d a b) m (.func (.func (sfn op)) #[] #[])
theorem ckSRow1 (w : World) : Calls Tryz.prog 147 #[.int .i64 1] w fun r w' => r = .returned (rowA 2 1 (.func (.func 188) #[] #[])) ∧ w.grownBy w' none := by
 go_enter Tryz.func147, Tryz.ntmps147
 go_wp2
 refine ⟨rfl, _, ?_, rfl, ?_⟩
 ·simp [results, show Tryz.func147.results = #[.cell 2 168] from rfl, go_sem]
 ·exact World.grownBy_alloc _ _ _
theorem ckSRow2 (w : World) : Calls Tryz.prog 147 #[.int .i64 2] w fun r w' => r = .returned (rowA 0 2 (.func (.func 189) #[] #[])) ∧ w.grownBy w' none := by
 go_enter Tryz.func147, Tryz.ntmps147
 go_wp2
 refine ⟨rfl, _, ?_, rfl, ?_⟩
 ·simp [results, show Tryz.func147.results = #[.cell 2 168] from rfl, go_sem]
 ·exact World.grownBy_alloc _ _ _
theorem ckSRow3 (w : World) : Calls Tryz.prog 147 #[.int .i64 3] w fun r w' => r = .returned (rowA 48 1 (.func (.func 190) #[] #[])) ∧ w.grownBy w' none := by
 go_enter Tryz.func147, Tryz.ntmps147
 go_wp2
 refine ⟨rfl, _, ?_, rfl, ?_⟩
 ·simp [results, show Tryz.func147.results = #[.cell 2 168] from rfl, go_sem]
 ·exact World.grownBy_alloc _ _ _
theorem ckSRow4 (w : World) : Calls Tryz.prog 147 #[.int .i64 4] w fun r w' => r = .returned (rowA 16 0 (.func (.func 191) #[] #[])) ∧ w.grownBy w' none := by
 go_enter Tryz.func147, Tryz.ntmps147
 go_wp2
 refine ⟨rfl, _, ?_, rfl, ?_⟩
 ·simp [results, show Tryz.func147.results = #[.cell 2 168] from rfl, go_sem]
 ·exact World.grownBy_alloc _ _ _
theorem ckSRow5 (w : World) : Calls Tryz.prog 147 #[.int .i64 5] w fun r w' => r = .returned (rowA 2 0 (.func (.func 192) #[] #[])) ∧ w.grownBy w' none := by
 go_enter Tryz.func147, Tryz.ntmps147
 go_wp2
 refine ⟨rfl, _, ?_, rfl, ?_⟩
 ·simp [results, show Tryz.func147.results = #[.cell 2 168] from rfl, go_sem]
 ·exact World.grownBy_alloc _ _ _
theorem ckSRow6 (w : World) : Calls Tryz.prog 147 #[.int .i64 6] w fun r w' => r = .returned (rowA 2 0 (.func (.func 192) #[] #[])) ∧ w.grownBy w' none := by
 go_enter Tryz.func147, Tryz.ntmps147
 go_wp2
 refine ⟨rfl, _, ?_, rfl, ?_⟩
 ·simp [results, show Tryz.func147.results = #[.cell 2 168] from rfl, go_sem]
 ·exact World.grownBy_alloc _ _ _
theorem ckSRow7 (w : World) : Calls Tryz.prog 147 #[.int .i64 7] w fun r w' => r = .returned (rowA 0 (-1) (.func (.func 193) #[] #[])) ∧ w.grownBy w' none := by
 go_enter Tryz.func147, Tryz.ntmps147
 go_wp2
 refine ⟨rfl, _, ?_, rfl, ?_⟩
 ·simp [results, show Tryz.func147.results = #[.cell 2 168] from rfl, go_sem]
 ·exact World.grownBy_alloc _ _ _
theorem ckSRow8 (w : World) : Calls Tryz.prog 147 #[.int .i64 8] w fun r w' => r = .returned (rowA 0 1 (.func (.func 194) #[] #[])) ∧ w.grownBy w' none := by
 go_enter Tryz.func147, Tryz.ntmps147
 go_wp2
 refine ⟨rfl, _, ?_, rfl, ?_⟩
 ·simp [results, show Tryz.func147.results = #[.cell 2 168] from rfl, go_sem]
 ·exact World.grownBy_alloc _ _ _
theorem ckSRow9 (w : World) : Calls Tryz.prog 147 #[.int .i64 9] w fun r w' => r = .returned (rowA 2 0 (.func (.func 195) #[] #[])) ∧ w.grownBy w' none := by
 go_enter Tryz.func147, Tryz.ntmps147
 go_wp2
 refine ⟨rfl, _, ?_, rfl, ?_⟩
 ·simp [results, show Tryz.func147.results = #[.cell 2 168] from rfl, go_sem]
 ·exact World.grownBy_alloc _ _ _
theorem ckSRow10 (w : World) : Calls Tryz.prog 147 #[.int .i64 10] w fun r w' => r = .returned (rowA 10 (-1) (.func (.func 196) #[] #[])) ∧ w.grownBy w' none := by
 go_enter Tryz.func147, Tryz.ntmps147
 go_wp2
 refine ⟨rfl, _, ?_, rfl, ?_⟩
 ·simp [results, show Tryz.func147.results = #[.cell 2 168] from rfl, go_sem]
 ·exact World.grownBy_alloc _ _ _
theorem ckSRow0 {op : Int} (h : ¬ (1 ≤ op ∧ op ≤ 10)) (w : World) : Calls Tryz.prog 147 #[.int .i64 op] w fun r w' => r = .returned (rowA 0 0 .nilFunc) ∧ w.grownBy w' none := by
 have q1 : (op == 1) = false := by simp; omega
 have q2 : (op == 2) = false := by simp; omega
 have q3 : (op == 3) = false := by simp; omega
 have q4 : (op == 4) = false := by simp; omega
 have q5 : (op == 5) = false := by simp; omega
 have q6 : (op == 6) = false := by simp; omega
 have q7 : (op == 7) = false := by simp; omega
 have q8 : (op == 8) = false := by simp; omega
 have q9 : (op == 9) = false := by simp; omega
 have q10 : (op == 10) = false := by simp; omega
 clear h
 go_enter Tryz.func147, Tryz.ntmps147
 go_wp2
 refine ⟨rfl, _, ?_, rfl, ?_⟩
 ·simp [results, show Tryz.func147.results = #[.cell 2 168] from rfl, go_sem]
 ·exact World.grownBy_alloc _ _ _
theorem ckSRow_any (op : Int) (w : World) : Calls Tryz.prog 147 #[.int .i64 op] w fun r w' => r = .returned (rowS op) ∧ w.grownBy w' none := by
 by_cases h : 1 ≤ op ∧ op ≤ 10
 ·obtain rfl | rfl | rfl | rfl | rfl | rfl | rfl | rfl | rfl | rfl : op = 1 ∨ op = 2 ∨ op = 3 ∨ op = 4 ∨ op = 5 ∨ op = 6 ∨ op = 7 ∨ op = 8 ∨ op = 9 ∨ op = 10 := by omega
  ·rw [show rowS 1 = rowA 2 1 (.func (.func 188) #[] #[]) from by simp [rowS, Ck.srow, sfn, Ck.pJ]]
   exact ckSRow1 w
  ·rw [show rowS 2 = rowA 0 2 (.func (.func 189) #[] #[]) from by simp [rowS, Ck.srow, sfn, Ck.pJ]]
   exact ckSRow2 w
  ·rw [show rowS 3 = rowA 48 1 (.func (.func 190) #[] #[]) from by simp [rowS, Ck.srow, sfn, Ck.pJ]]
   exact ckSRow3 w
  ·rw [show rowS 4 = rowA 16 0 (.func (.func 191) #[] #[]) from by simp [rowS, Ck.srow, sfn, Ck.pJ]]
   exact ckSRow4 w
  ·rw [show rowS 5 = rowA 2 0 (.func (.func 192) #[] #[]) from by simp [rowS, Ck.srow, sfn, Ck.pJ]]
   exact ckSRow5 w
  ·rw [show rowS 6 = rowA 2 0 (.func (.func 192) #[] #[]) from by simp [rowS, Ck.srow, sfn, Ck.pJ]]
   exact ckSRow6 w
  ·rw [show rowS 7 = rowA 0 (-1) (.func (.func 193) #[] #[]) from by simp [rowS, Ck.srow, sfn, Ck.pJ]]
   exact ckSRow7 w
  ·rw [show rowS 8 = rowA 0 1 (.func (.func 194) #[] #[]) from by simp [rowS, Ck.srow, sfn, Ck.pJ]]
   exact ckSRow8 w
  ·rw [show rowS 9 = rowA 2 0 (.func (.func 195) #[] #[]) from by simp [rowS, Ck.srow, sfn, Ck.pJ]]
   exact ckSRow9 w
  ·rw [show rowS 10 = rowA 10 (-1) (.func (.func 196) #[] #[]) from by simp [rowS, Ck.srow, sfn, Ck.pJ]]
   exact ckSRow10 w
 ·rw [show rowS op = rowA 0 0 .nilFunc from by unfold rowS; rw [show Ck.srow op = none from by unfold Ck.srow; repeat rw [if_neg (by omega)]]]
  exact ckSRow0 h w
theorem ckSParts_any (op n : Int) (a1 : Option Addr) (m1 k1 : Nat) (a2 : Option Addr) (m2 k2 : Nat) (a3 : Option Addr) (m3 k3 : Nat) (a4 : Option Addr) (m4 k4 : Nat) (w : World) : Calls Tryz.prog 148 #[stV op n a1 m1 k1 a2 m2 k2 a3 m3 k3 a4 m4 k4] w fun r w' => r = .returned (.int .i64 (Ck.pJ (n != 0) (decide (0 < m2)) (decide (0 < m3)) (decide (0 < m4)))) ∧ w.grownBy w' none := by
 have g1 := World.grownBy_alloc w (Obj.cells #[.int .i64 op, .int .i64 n, .slice a1 m1 k1, .slice a2 m2 k2, .slice a3 m3 k3, .slice a4 m4 k4] 51) none
 have kb : Bk (w.alloc (Obj.cells #[.int .i64 op, .int .i64 n, .slice a1 m1 k1, .slice a2 m2 k2, .slice a3 m3 k3, .slice a4 m4 k4] 51)) w.heap.size 51 [.int .i64 op, .int .i64 n, .slice a1 m1 k1, .slice a2 m2 k2, .slice a3 m3 k3, .slice a4 m4 k4] := Bk.new _ _ _
 obtain ⟨W1, hW1⟩ : ∃ W, W = w.alloc (Obj.cells #[.int .i64 op, .int .i64 n, .slice a1 m1 k1, .slice a2 m2 k2, .slice a3 m3 k3, .slice a4 m4 k4] 51) := ⟨_, rfl⟩
 obtain ⟨B4, hB4⟩ : ∃ B, B = w.heap.size := ⟨_, rfl⟩
 rw [← hW1] at g1 kb
 rw [← hB4] at kb
 have HW : Hid (w.alloc (Obj.cells #[.int .i64 op, .int .i64 n, .slice a1 m1 k1, .slice a2 m2 k2, .slice a3 m3 k3, .slice a4 m4 k4] 51) = W1 ∧ w.heap.size = B4) := ⟨hW1.symm, hB4.symm⟩
 have HG : Hid (w.grownBy W1 none) := g1
 have HX : Hid (∀ W, W1.grownBy W none → W.cell? ⟨B4, 1, none⟩ = some (.int .i64 n) ∧ W.cell? ⟨B4, 3, none⟩ = some (.slice a2 m2 k2) ∧ W.cell? ⟨B4, 4, none⟩ = some (.slice a3 m3 k3) ∧ W.cell? ⟨B4, 5, none⟩ = some (.slice a4 m4 k4)) := fun W g => ⟨(kb.grow g).cell (i := 1) rfl, (kb.grow g).cell (i := 3) rfl, (kb.grow g).cell (i := 4) rfl, (kb.grow g).cell (i := 5) rfl⟩
 clear hW1 hB4 g1 kb
 have HP : Hid (∀ (p : Int) W, W1.grownBy W none → Calls Tryz.prog 131 #[.int .i64 p, .bool true] W fun r w' => r = .returned (.int .i64 p) ∧ W.grownBy w' none) := fun p W _ => (ckPart_any p true W).mono fun r w' h => ⟨h.1, by rw [h.2]; exact World.grownBy.refl _ _⟩
 have HP0 : Hid (∀ (p : Int) W, W1.grownBy W none → Calls Tryz.prog 131 #[.int .i64 p, .bool false] W fun r w' => r = .returned (.int .i64 0) ∧ W.grownBy w' none) := fun p W _ => (ckPart_any p false W).mono fun r w' h => ⟨h.1, by rw [h.2]; exact World.grownBy.refl _ _⟩
 rcases Bool.eq_false_or_eq_true (n != 0) with q0 | q0
 all_goals rcases Bool.eq_false_or_eq_true (decide (0 < m2)) with q1 | q1
 all_goals rcases Bool.eq_false_or_eq_true (decide (0 < m3)) with q2 | q2
 all_goals rcases Bool.eq_false_or_eq_true (decide (0 < m4)) with q3 | q3
 all_goals
  rw [q0, q1, q2, q3]
  go_enter Tryz.func148, Tryz.ntmps148
  go_wp2_with fail
  rw [HW.out.1, HW.out.2]
  refine region_lg 22 (World.grownBy.refl _ _) (by kernel_rfl) (by kernel_rfl) (by kernel_rfl) (by kernel_rfl) ?_
  simp only [List.take_succ_cons, List.take_zero]
  repeat (first
   | (refine lx_end fun W0 GR => ?_)
   | (refine lx_no ?_ ?_ ?_; (· simp [Region.wanted]; done); (· kernel_rfl); simp only [Act.put, List.setIfInBounds_toArray, List.set_cons_succ, List.set_cons_zero])
   | (refine lx_val (v := ?_) ?_ ?_ ?_ ?_; rotate_left; (· kernel_rfl); (· exact ⟨by kernel_rfl, rfl⟩); (· intro W g; simp [go_sem, (HX.out W g).1, (HX.out W g).2.1, (HX.out W g).2.2.1, (HX.out W g).2.2.2, q0, q1, q2, q3]; rfl); simp only [Act.put, List.setIfInBounds_toArray, List.set_cons_succ, List.set_cons_zero])
   | (refine lx_callg (HP.out 2) ?_ ?_ ?_ ?_; (· kernel_rfl); (· exact ⟨by kernel_rfl, rfl⟩); (· intro W g; simp [go_sem]; done); simp only [Act.put, List.setIfInBounds_toArray, List.set_cons_succ, List.set_cons_zero])
   | (refine lx_callg (HP0.out 2) ?_ ?_ ?_ ?_; (· kernel_rfl); (· exact ⟨by kernel_rfl, rfl⟩); (· intro W g; simp [go_sem]; done); simp only [Act.put, List.setIfInBounds_toArray, List.set_cons_succ, List.set_cons_zero])
   | (refine lx_callg (HP.out 8) ?_ ?_ ?_ ?_; (· kernel_rfl); (· exact ⟨by kernel_rfl, rfl⟩); (· intro W g; simp [go_sem]; done); simp only [Act.put, List.setIfInBounds_toArray, List.set_cons_succ, List.set_cons_zero])
   | (refine lx_callg (HP0.out 8) ?_ ?_ ?_ ?_; (· kernel_rfl); (· exact ⟨by kernel_rfl, rfl⟩); (· intro W g; simp [go_sem]; done); simp only [Act.put, List.setIfInBounds_toArray, List.set_cons_succ, List.set_cons_zero])
   | (refine lx_callg (HP.out 16) ?_ ?_ ?_ ?_; (· kernel_rfl); (· exact ⟨by kernel_rfl, rfl⟩); (· intro W g; simp [go_sem]; done); simp only [Act.put, List.setIfInBounds_toArray, List.set_cons_succ, List.set_cons_zero])
   | (refine lx_callg (HP0.out 16) ?_ ?_ ?_ ?_; (· kernel_rfl); (· exact ⟨by kernel_rfl, rfl⟩); (· intro W g; simp [go_sem]; done); simp only [Act.put, List.setIfInBounds_toArray, List.set_cons_succ, List.set_cons_zero])
   | (refine lx_callg (HP.out 32) ?_ ?_ ?_ ?_; (· kernel_rfl); (· exact ⟨by kernel_rfl, rfl⟩); (· intro W g; simp [go_sem]; done); simp only [Act.put, List.setIfInBounds_toArray, List.set_cons_succ, List.set_cons_zero])
   | (refine lx_callg (HP0.out 32) ?_ ?_ ?_ ?_; (· kernel_rfl); (· exact ⟨by kernel_rfl, rfl⟩); (· intro W g; simp [go_sem]; done); simp only [Act.put, List.setIfInBounds_toArray, List.set_cons_succ, List.set_cons_zero]))
  simp only [List.drop_succ_cons, List.drop_zero]
  go_wp2
  go_ret
  exact ⟨rfl, grown_trans HG.out GR⟩
theorem ckSask {N : Nat} {w : World} {SB : Nat} {c : Ck.En} {A : ScA} {lp : Nat} {nodes deep : Int} (h : Sc N w SB c A lp nodes deep) (op n : Int) (a1 : Option Addr) (m1 k1 : Nat) (a2 : Option Addr) (m2 k2 : Nat) (a3 : Option Addr) (m3 k3 : Nat) (a4 : Option Addr) (m4 k4 : Nat) {M : Nat} {aa : Option Addr} {ac : Nat} {l dst : List Int} {pN pD pA pB : Bool} {m : Int} (hr : Ck.srow op = some (pN, pD, pA, pB, m)) (hm : (m == -1 || m == (l.length : Int)) = true) (hlp : lp < 9000000000000000000) (hn : ∀ x, x ∈ l → 0 ≤ x ∧ x < (c.n : Int)) (hl : NumIn M w aa l.length ac (fun i => l.getD i 0))
  (hcall : CkS 196 w SB (stV 10 n a1 m1 k1 a2 m2 k2 a3 m3 k3 a4 m4 k4) aa l.length ac (Ck.sask c lp 10 n dst l)) : CkS (sfn op) w SB (stV op n a1 m1 k1 a2 m2 k2 a3 m3 k3 a4 m4 k4) aa l.length ac (Ck.sask c lp op n dst l) := by
 by_cases hop : 1 ≤ op ∧ op ≤ 10
 case neg =>
  have hr2 : Ck.srow op = none := by unfold Ck.srow; repeat rw [if_neg (by omega)]
  rw [hr2] at hr; cases hr
 obtain rfl | rfl | rfl | rfl | rfl | rfl | rfl | rfl | rfl | rfl : op = 1 ∨ op = 2 ∨ op = 3 ∨ op = 4 ∨ op = 5 ∨ op = 6 ∨ op = 7 ∨ op = 8 ∨ op = 9 ∨ op = 10 := by omega
 ·have hr : some (true, false, false, false, 1) = some (pN, pD, pA, pB, m) := hr
  simp only [Option.some.injEq, Prod.mk.injEq] at hr
  obtain ⟨rfl, rfl, rfl, rfl, rfl⟩ := hr
  rw [show sfn 1 = 188 from by simp [sfn]]
  cases hnb : Ty.nmB c.f.locals.length n
  ·exact ckSet_no h 1 n a1 m1 k1 a2 m2 k2 a3 m3 k3 a4 m4 k4 (by simp at hm; omega) hn hl hnb
  ·exact ckSet_ok h 1 n a1 m1 k1 a2 m2 k2 a3 m3 k3 a4 m4 k4 (by simp at hm; omega) hn hl hnb
 ·have hr : some (false, false, false, false, 2) = some (pN, pD, pA, pB, m) := hr
  simp only [Option.some.injEq, Prod.mk.injEq] at hr
  obtain ⟨rfl, rfl, rfl, rfl, rfl⟩ := hr
  rw [show sfn 2 = 189 from by simp [sfn]]
  exact ckStore h 2 n a1 m1 k1 a2 m2 k2 a3 m3 k3 a4 m4 k4 (by simp at hm; omega) hn hl
 ·have hr : some (false, false, true, true, 1) = some (pN, pD, pA, pB, m) := hr
  simp only [Option.some.injEq, Prod.mk.injEq] at hr
  obtain ⟨rfl, rfl, rfl, rfl, rfl⟩ := hr
  rw [show sfn 3 = 190 from by simp [sfn]]
  exact ckChoice h 3 n a1 m1 k1 a2 m2 k2 a3 m3 k3 a4 m4 k4 (by simp at hm; omega) hn hl
 ·have hr : some (false, false, true, false, 0) = some (pN, pD, pA, pB, m) := hr
  simp only [Option.some.injEq, Prod.mk.injEq] at hr
  obtain ⟨rfl, rfl, rfl, rfl, rfl⟩ := hr
  rw [show sfn 4 = 191 from by simp [sfn]]
  exact ckLoop h 4 n a1 m1 k1 a2 m2 k2 a3 m3 k3 a4 m4 k4 (by simp at hm; omega) hn hl
 ·have hr : some (true, false, false, false, 0) = some (pN, pD, pA, pB, m) := hr
  simp only [Option.some.injEq, Prod.mk.injEq] at hr
  obtain ⟨rfl, rfl, rfl, rfl, rfl⟩ := hr
  rw [show sfn 5 = 192 from by simp [sfn]]
  exact ckBreak h 5 n a1 m1 k1 a2 m2 k2 a3 m3 k3 a4 m4 k4 (by simp at hm; omega) hn hl hlp
 ·have hr : some (true, false, false, false, 0) = some (pN, pD, pA, pB, m) := hr
  simp only [Option.some.injEq, Prod.mk.injEq] at hr
  obtain ⟨rfl, rfl, rfl, rfl, rfl⟩ := hr
  rw [show sfn 6 = 192 from by simp [sfn]]
  exact ckContinue h 6 n a1 m1 k1 a2 m2 k2 a3 m3 k3 a4 m4 k4 (by simp at hm; omega) hn hl hlp
 ·have hr : some (false, false, false, false, -1) = some (pN, pD, pA, pB, m) := hr
  simp only [Option.some.injEq, Prod.mk.injEq] at hr
  obtain ⟨rfl, rfl, rfl, rfl, rfl⟩ := hr
  rw [show sfn 7 = 193 from by simp [sfn]]
  exact ckGiveBack h 7 n a1 m1 k1 a2 m2 k2 a3 m3 k3 a4 m4 k4 hn hl
 ·have hr : some (false, false, false, false, 1) = some (pN, pD, pA, pB, m) := hr
  simp only [Option.some.injEq, Prod.mk.injEq] at hr
  obtain ⟨rfl, rfl, rfl, rfl, rfl⟩ := hr
  rw [show sfn 8 = 194 from by simp [sfn]]
  exact ckEmit h 8 n a1 m1 k1 a2 m2 k2 a3 m3 k3 a4 m4 k4 (by simp at hm; omega) hn hl
 ·have hr : some (true, false, false, false, 0) = some (pN, pD, pA, pB, m) := hr
  simp only [Option.some.injEq, Prod.mk.injEq] at hr
  obtain ⟨rfl, rfl, rfl, rfl, rfl⟩ := hr
  rw [show sfn 9 = 195 from by simp [sfn]]
  exact ckUserPanic h 9 n a1 m1 k1 a2 m2 k2 a3 m3 k3 a4 m4 k4 (by simp at hm; omega) hn hl
 ·have hr : some (true, true, false, false, -1) = some (pN, pD, pA, pB, m) := hr
  simp only [Option.some.injEq, Prod.mk.injEq] at hr
  obtain ⟨rfl, rfl, rfl, rfl, rfl⟩ := hr
  rw [show sfn 10 = 196 from by simp [sfn]]
  exact hcall
end Go.Proofs.YtpcgkggpmipiaaaGreat
