/- The small functions of the page's own words (package gantryref1), and word.Bytes: contracts, by the same plain functions as package word's. -/
import Derived.Test.YtnedflpcfpkbnaaCanon
import Derived.Deep.QuietTactic
import Derived.BigQuiet
namespace Go.Proofs.Ytnedflpcfpkbnaa
open Go.RowKit
set_option linter.unusedVariables false

namespace Wd
def by' (k : Int) : Int := (wid k + 7) / 8
end Wd

namespace Wd
def wordB (k : Int) : Bool := decide (1 ≤ k) && decide (k ≤ 11)
end Wd

set_option maxHeartbeats 400000 in
theorem bytes_any (k : Int) (w : World) :
    Calls Try.prog 30 #[.int .i64 k] w fun e w' => e = .returned (.int .i64 (Wd.by' k)) ∧ w' = w := by
  have h1 : 0 ≤ Wd.wid k := by unfold Wd.wid; repeat' split
                               all_goals omega
  have h2 : Wd.wid k ≤ 64 := by unfold Wd.wid; repeat' split
                                all_goals omega
  go_enter Try.func30, Try.ntmps30
  go_wp2_with (go_at_call 35; refine (width_any _ _).mono ?_; rintro e w' ⟨rfl, rfl⟩)
  go_ret
  exact ⟨rfl, rfl⟩

set_option maxHeartbeats 400000 in
theorem rwidth_any (k : Int) (w : World) :
    Calls Try.prog 28 #[.int .i64 k] w fun e w' => e = .returned (.int .i64 (Wd.wid k)) ∧ w' = w := by
  go_enter Try.func28, Try.ntmps28
  go_wp2
  all_goals (go_ret; refine ⟨ret_i64 ?_, rfl⟩; simp only [beq_iff_eq, beq_eq_false_iff_ne] at *; unfold Wd.wid; simp [*])

set_option maxHeartbeats 400000 in
theorem rbytes_any (k : Int) (w : World) :
    Calls Try.prog 16 #[.int .i64 k] w fun e w' => e = .returned (.int .i64 (Wd.by' k)) ∧ w' = w := by
  have h1 : 0 ≤ Wd.wid k := by unfold Wd.wid; repeat' split
                               all_goals omega
  have h2 : Wd.wid k ≤ 64 := by unfold Wd.wid; repeat' split
                                all_goals omega
  by_cases hk : k = 1
  · subst hk
    go_enter Try.func16, Try.ntmps16
    go_wp2_with (go_at_call 28; refine (rwidth_any _ _).mono ?_; rintro e w' ⟨rfl, rfl⟩)
    go_ret
    exact ⟨rfl, rfl⟩
  · have hk' : (k == 1) = false := by simpa using hk
    have Hb : Hid (Wd.by' k = Wd.wid k / 8) := by
      show _ = _
      unfold Wd.by' Wd.wid; repeat' split
      all_goals omega
    clear hk
    go_enter Try.func16, Try.ntmps16
    go_wp2_with (go_at_call 28; refine (rwidth_any _ _).mono ?_; rintro e w' ⟨rfl, rfl⟩)
    go_ret
    exact ⟨ret_i64 Hb.out.symm, rfl⟩

set_option maxHeartbeats 400000 in
theorem rsigned_any (k : Int) (w : World) :
    Calls Try.prog 29 #[.int .i64 k] w fun e w' => e = .returned (.bool (Wd.sgnB k)) ∧ w' = w := by
  go_enter Try.func29, Try.ntmps29
  go_wp2
  all_goals (go_ret; refine ⟨ret_bool ?_, rfl⟩; simp only [Wd.sgnB] at *; first | (rw [Bool.eq_iff_iff]; simp at *; omega))

set_option maxHeartbeats 400000 in
theorem rword_any (k : Int) (w : World) :
    Calls Try.prog 18 #[.int .i64 k] w fun e w' => e = .returned (.bool (Wd.wordB k)) ∧ w' = w := by
  go_enter Try.func18, Try.ntmps18
  go_wp2
  all_goals (go_ret; refine ⟨ret_bool ?_, rfl⟩; simp only [Wd.wordB] at *; first | (rw [Bool.eq_iff_iff]; simp at *; omega))

set_option maxHeartbeats 400000 in
theorem rcanon_any (k x : Int) (w : World) (hx : 0 ≤ x) (hx2 : x < 18446744073709551616) :
    Calls Try.prog 14 #[.int .i64 k, .int .u64 x] w fun e w' => e = .returned (.int .u64 (Wd.canon k x)) ∧ w' = w := by
  rcases Wd.kinds k with h | h | h | h | h | h | h | h | h | h | h | h
  all_goals first
    | (subst h
       go_enter Try.func14, Try.ntmps14
       go_wp2
       go_ret
       refine ⟨ret_u64 ?_, rfl⟩
       simp only [Wd.canon1, Wd.canon2, Wd.canon3, Wd.canon4, Wd.canon5, Wd.canon6, Wd.canon7, Wd.canon8, Wd.canon9, Wd.canon10, Wd.canon11, IntKind.wrap_u64, wrap64]; omega)
    | (have hw : Wd.wordB k = false := by unfold Wd.wordB; simp; omega
       have Hz : Hid (Wd.canon k x = 0) := Wd.canon_out k x h
       clear h
       go_enter Try.func14, Try.ntmps14
       go_wp2_with (go_at_call 18; refine (rword_any _ _).mono ?_; rintro e w' ⟨rfl, rfl⟩)
       go_ret
       exact ⟨ret_u64 Hz.out.symm, rfl⟩)

set_option maxHeartbeats 400000 in
theorem ris_any (k x : Int) (w : World) (hx : 0 ≤ x) (hx2 : x < 18446744073709551616) :
    Calls Try.prog 20 #[.int .i64 k, .int .u64 x] w fun e w' => e = .returned (.bool (Wd.isB k x)) ∧ w' = w := by
  cases hk : Wd.wordB k
  · have Hi : Hid (Wd.isB k x = false) := by show _ = _; unfold Wd.isB; unfold Wd.wordB at hk; rw [hk]; rfl
    go_enter Try.func20, Try.ntmps20
    go_wp2_with (first | (go_at_call 18; refine (rword_any _ _).mono ?_; rintro e w' ⟨rfl, rfl⟩) | (go_at_call 14; refine (rcanon_any _ _ _ (by assumption) (by assumption)).mono ?_; rintro e w' ⟨rfl, rfl⟩))
    go_ret
    exact ⟨ret_bool Hi.out.symm, rfl⟩
  · have Hi : Hid (Wd.isB k x = (Wd.canon k x == x)) := by show _ = _; unfold Wd.isB; unfold Wd.wordB at hk; rw [hk]; rfl
    go_enter Try.func20, Try.ntmps20
    go_wp2_with (first | (go_at_call 18; refine (rword_any _ _).mono ?_; rintro e w' ⟨rfl, rfl⟩) | (go_at_call 14; refine (rcanon_any _ _ _ (by assumption) (by assumption)).mono ?_; rintro e w' ⟨rfl, rfl⟩))
    go_ret
    exact ⟨ret_bool Hi.out.symm, rfl⟩

end Go.Proofs.Ytnedflpcfpkbnaa
