/- bin and wakes (of the laws), at kinds that are no floats: contracts. -/
import Derived.Test.YtjhcamcdmebpnaaBinI
namespace Go.Proofs.Ytjhcamcdmebpnaa
open Go.RowKit
set_option linter.unusedVariables false

namespace Wd
/-- the word alone -/
def bv (op k x y : Int) : Int := (binI op k x y).1
end Wd

set_option maxHeartbeats 400000 in
theorem bin_any (op k x y : Int) (w : World) (hx : 0 ≤ x) (hx2 : x < 18446744073709551616) (hy : 0 ≤ y) (hy2 : y < 18446744073709551616) (hk : k ≠ 10) :
    Calls Try.prog 24 #[.int .i64 op, .int .i64 k, .int .u64 x, .int .u64 y] w fun e w' => e = .returned (.int .u64 (Wd.bv op k x y)) ∧ w' = w := by
  have Hk : Hid (k ≠ 10) := hk
  clear hk
  go_enter Try.func24, Try.ntmps24
  go_wp2_with (go_at_call 9; refine (binI_any _ _ _ _ _ (by assumption) (by assumption) (by assumption) (by assumption) Hk.out).mono ?_; rintro e w' ⟨rfl, rfl⟩)
  go_ret
  exact ⟨rfl, rfl⟩

set_option maxHeartbeats 400000 in
theorem num_any (x : Int) (w : World) :
    Calls Try.prog 14 #[.int .i64 x] w fun e w' => e = .returned (.int .i64 x) ∧ w' = w := by
  go_enter Try.func14, Try.ntmps14
  go_wp2
  go_ret
  exact ⟨rfl, rfl⟩

theorem binI_wakes : Wd.binI 1 6 200 100 = (44, 0) := by decide +kernel
theorem wid3 : Wd.wid 3 = 16 := by decide +kernel

set_option maxHeartbeats 400000 in
theorem wakes_any (w : World) :
    Calls Try.prog 23 #[] w fun e w' => e = .returned (.bool true) ∧ w' = w := by
  have h1 := binI_wakes
  have h2 := wid3
  go_enter Try.func23, Try.ntmps23
  go_wp2_with (first | (go_at_call 9; refine (binI_any _ _ _ _ _ (by decide) (by decide) (by decide) (by decide) (by decide)).mono ?_; rintro e w' ⟨rfl, rfl⟩) | (go_at_call 14; refine (num_any _ _).mono ?_; rintro e w' ⟨rfl, rfl⟩) | (go_at_call 15; refine (width_any _ _).mono ?_; rintro e w' ⟨rfl, rfl⟩))
  go_ret
  exact ⟨rfl, rfl⟩

end Go.Proofs.Ytjhcamcdmebpnaa
