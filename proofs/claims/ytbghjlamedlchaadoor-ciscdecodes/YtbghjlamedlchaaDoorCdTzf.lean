/- cisc.logOf as a function of Scale. -/
import Derived.Test.YtbghjlamedlchaaDoorG3
namespace Go.Proofs.YtbghjlamedlchaaDoor
open Go.RowKit
set_option linter.unusedVariables false

namespace Cc
def tzV (x : Int) : Int := wrap64 (tzL.getD (tzI x).toNat 0)
def lgT (s : Int) : Int := if s = 0 then 15 else tzV (s % 18446744073709551616)
theorem tzV_1 : tzV 1 = 0 := by unfold tzV; rw [show tzL.getD (tzI 1).toNat 0 = 0 by decide]; unfold wrap64; omega
theorem tzV_2 : tzV 2 = 1 := by unfold tzV; rw [show tzL.getD (tzI 2).toNat 0 = 1 by decide]; unfold wrap64; omega
theorem tzV_4 : tzV 4 = 2 := by unfold tzV; rw [show tzL.getD (tzI 4).toNat 0 = 2 by decide]; unfold wrap64; omega
theorem tzV_8 : tzV 8 = 3 := by unfold tzV; rw [show tzL.getD (tzI 8).toNat 0 = 3 by decide]; unfold wrap64; omega
theorem log_is (s : Int) : LogIs s (lgT s) := by
  refine ⟨fun h => ?_, fun h => ?_, fun h => ?_, fun h => ?_, fun h => ?_⟩
  · subst h; rfl
  · subst h; exact tzV_1
  · subst h; exact tzV_2
  · subst h; exact tzV_4
  · subst h; exact tzV_8
end Cc

set_option maxHeartbeats 800000 in
theorem tz_fn (x : Int) (w : World) (hT : TabAt w) (h0 : (x == 0) = false) :
    Calls Tryd.prog 76 #[.int .u64 x] w fun e w' => e = .returned (.int .i64 (Cc.tzV x)) ∧ w' = w := by
  have hI := Cc.tzI_rng x
  have hc := hT.2 (Cc.tzI x).toNat (by omega)
  have HV : Hid (Cc.tzV x = wrap64 (Cc.tzL.getD (Cc.tzI x).toNat 0)) := rfl
  generalize Cc.tzL.getD (Cc.tzI x).toNat 0 = L at hc HV
  clear hT
  unfold Cc.tzI at hI hc
  go_enter Tryd.func76, Tryd.ntmps76
  go_wp2
  go_ret
  exact ⟨ret_i64 HV.out.symm, rfl⟩
set_option maxHeartbeats 800000 in
theorem tzu_fn (x : Int) (w : World) (hT : TabAt w) (h1 : 0 ≤ x) (h2 : x < 18446744073709551616) (h0 : (x == 0) = false) :
    Calls Tryd.prog 60 #[.int .u64 x] w fun e w' => e = .returned (.int .i64 (Cc.tzV x)) ∧ w' = w := by
  go_enter Tryd.func60, Tryd.ntmps60
  go_wp2_with (go_at_call 76; refine (tz_fn x _ hT h0).mono ?_; rintro e w' ⟨rfl, rfl⟩)
  go_ret
  exact ⟨rfl, rfl⟩
set_option maxHeartbeats 800000 in
theorem clog_fn (s : Int) (w : World) (hT : TabAt w) (h1 : -9223372036854775808 ≤ s) (h2 : s ≤ 9223372036854775807) :
    Calls Tryd.prog 42 #[.int .i64 s] w fun e w' => e = .returned (.int .i64 (Cc.lgT s)) ∧ w' = w := by
  by_cases h0 : s = 0
  · subst h0
    go_enter Tryd.func42, Tryd.ntmps42
    go_wp2
    go_ret
    exact ⟨rfl, rfl⟩
  · have hb : (s == 0) = false := by rw [beq_eq_false_iff_ne]; exact h0
    have hb2 : (s % 18446744073709551616 == 0) = false := by rw [beq_eq_false_iff_ne]; omega
    have h3 : 0 ≤ s % 18446744073709551616 := by omega
    have h4 : s % 18446744073709551616 < 18446744073709551616 := by omega
    have HV : Hid (Cc.lgT s = Cc.tzV (s % 18446744073709551616)) := by unfold Cc.lgT; rw [if_neg h0]; exact rfl
    go_enter Tryd.func42, Tryd.ntmps42
    go_wp2_with (go_at_call 60; refine (tzu_fn _ _ hT h3 h4 hb2).mono ?_; rintro e w' ⟨rfl, rfl⟩)
    go_ret
    exact ⟨ret_i64 HV.out.symm, rfl⟩
end Go.Proofs.YtbghjlamedlchaaDoor
