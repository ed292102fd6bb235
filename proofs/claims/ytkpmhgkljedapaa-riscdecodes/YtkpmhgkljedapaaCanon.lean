/- Canon, Is, Bytes and the comparisons of package word: contracts. -/
import Derived.Test.YtkpmhgkljedapaaLeaf
namespace Go.Proofs.Ytkpmhgkljedapaa
open Go.RowKit

set_option maxHeartbeats 400000 in
theorem canon_any (k x : Int) (w : World) (hx : 0 ≤ x) (hx2 : x < 18446744073709551616) :
    Calls Try.prog 47 #[.int .i64 k, .int .u64 x] w fun e w' => e = .returned (.int .u64 (Wd.canon k x)) ∧ w' = w := by
  rcases Wd.kinds k with h | h | h | h | h | h | h | h | h | h | h | (h | h)
  all_goals
    first | subst h | skip
    go_enter Try.func47, Try.ntmps47
    go_wp2
    go_ret
    refine ⟨ret_u64 ?_, rfl⟩
    first
      | (simp only [Wd.canon1, Wd.canon2, Wd.canon3, Wd.canon4, Wd.canon5, Wd.canon6, Wd.canon7, Wd.canon8, Wd.canon9, Wd.canon10, Wd.canon11, IntKind.wrap_u64, wrap64]; omega)
      | exact (Wd.canon_out k x (by omega)).symm

set_option maxHeartbeats 400000 in
theorem is_any (k x : Int) (w : World) (hx : 0 ≤ x) (hx2 : x < 18446744073709551616) :
    Calls Try.prog 41 #[.int .i64 k, .int .u64 x] w fun e w' => e = .returned (.bool (Wd.isB k x)) ∧ w' = w := by
  by_cases hk : 1 ≤ k ∧ k ≤ 11
  · have hw : 0 < Wd.wid k := by unfold Wd.wid; repeat' split
                                 all_goals omega
    have hi : Wd.isB k x = (Wd.canon k x == x) := by simp [Wd.isB, hk]
    have Hi : Hid (_ = _) := hi
    clear hi hk
    go_enter Try.func41, Try.ntmps41
    go_wp2_with (first | (go_at_call 39; refine (width_any _ _).mono ?_; rintro e w' ⟨rfl, rfl⟩) | (go_at_call 47; refine (canon_any _ _ _ (by assumption) (by assumption)).mono ?_; rintro e w' ⟨rfl, rfl⟩))
    go_ret
    exact ⟨ret_bool Hi.out.symm, rfl⟩
  · have hw : ¬ 0 < Wd.wid k := by unfold Wd.wid; repeat' split
                                   all_goals omega
    have hi : Wd.isB k x = false := by unfold Wd.isB; rw [Bool.and_eq_false_iff]; left; simp; omega
    have Hi : Hid (_ = _) := hi
    clear hi hk
    go_enter Try.func41, Try.ntmps41
    go_wp2_with (first | (go_at_call 39; refine (width_any _ _).mono ?_; rintro e w' ⟨rfl, rfl⟩) | (go_at_call 47; refine (canon_any _ _ _ (by assumption) (by assumption)).mono ?_; rintro e w' ⟨rfl, rfl⟩))
    go_ret
    exact ⟨ret_bool Hi.out.symm, rfl⟩

end Go.Proofs.Ytkpmhgkljedapaa
