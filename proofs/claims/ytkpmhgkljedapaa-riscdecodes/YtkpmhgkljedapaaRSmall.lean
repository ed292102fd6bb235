/- The small functions of the page's own words (package gantryref1), and word.Bytes: contracts, by the same plain functions as package word's. -/
import Derived.Test.YtkpmhgkljedapaaCanon
import Derived.Deep.QuietTactic
import Derived.BigQuiet
namespace Go.Proofs.Ytkpmhgkljedapaa
open Go.RowKit
set_option linter.unusedVariables false

namespace Wd
def by' (k : Int) : Int := (wid k + 7) / 8
end Wd

namespace Wd
def wordB (k : Int) : Bool := decide (1 ≤ k) && decide (k ≤ 11)
end Wd

set_option maxHeartbeats 400000 in
theorem rword_any (k : Int) (w : World) :
    Calls Try.prog 27 #[.int .i64 k] w fun e w' => e = .returned (.bool (Wd.wordB k)) ∧ w' = w := by
  go_enter Try.func27, Try.ntmps27
  go_wp2
  all_goals (go_ret; refine ⟨ret_bool ?_, rfl⟩; simp only [Wd.wordB] at *; first | (rw [Bool.eq_iff_iff]; simp at *; omega))

set_option maxHeartbeats 400000 in
theorem rint_any (k : Int) (w : World) :
    Calls Try.prog 33 #[.int .i64 k] w fun e w' => e = .returned (.bool (Wd.intB k)) ∧ w' = w := by
  go_enter Try.func33, Try.ntmps33
  go_wp2
  all_goals (go_ret; refine ⟨ret_bool ?_, rfl⟩; simp only [Wd.intB] at *; first | (rw [Bool.eq_iff_iff]; simp at *; omega))

set_option maxHeartbeats 400000 in
theorem rhasUn_any (op k : Int) (w : World) :
    Calls Try.prog 25 #[.int .i64 op, .int .i64 k] w fun e w' => e = .returned (.bool (Wd.hasUnB op k)) ∧ w' = w := by
  go_enter Try.func25, Try.ntmps25
  go_wp2_with (go_at_call 33; refine (rint_any _ _).mono ?_; rintro e w' ⟨rfl, rfl⟩)
  all_goals (go_ret; refine ⟨ret_bool ?_, rfl⟩; simp only [Wd.hasUnB, Wd.intB, Wd.numB] at *; first | (rw [Bool.eq_iff_iff]; simp at *; omega))

set_option maxHeartbeats 1000000 in
theorem rhasBin_any (op k : Int) (w : World) :
    Calls Try.prog 24 #[.int .i64 op, .int .i64 k] w fun e w' => e = .returned (.bool (Wd.hasBinB op k)) ∧ w' = w := by
  go_enter Try.func24, Try.ntmps24
  go_wp2_with (go_at_call 33; refine (rint_any _ _).mono ?_; rintro e w' ⟨rfl, rfl⟩)
  all_goals (go_ret; refine ⟨ret_bool ?_, rfl⟩; simp only [Wd.hasBinB, Wd.intB, Wd.cmpB] at *; first | (rw [Bool.eq_iff_iff]; simp at *; omega))

set_option maxHeartbeats 1000000 in
theorem rhasConv_any (k t : Int) (w : World) :
    Calls Try.prog 26 #[.int .i64 k, .int .i64 t] w fun e w' => e = .returned (.bool (Wd.numB k && Wd.numB t)) ∧ w' = w := by
  go_enter Try.func26, Try.ntmps26
  go_wp2_with (go_at_call 33; refine (rint_any _ _).mono ?_; rintro e w' ⟨rfl, rfl⟩)
  all_goals (go_ret; refine ⟨ret_bool ?_, rfl⟩; simp only [Wd.intB, Wd.numB] at *; first | (rw [Bool.eq_iff_iff]; simp at *; omega))

end Go.Proofs.Ytkpmhgkljedapaa
