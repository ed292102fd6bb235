/- Un: its contract. -/
import Derived.Test.YtkpmhgkljedapaaBin
namespace Go.Proofs.Ytkpmhgkljedapaa
open Go.RowKit
set_option linter.unusedVariables false

namespace Wd
def flip (x : Int) : Int := if x < 9223372036854775808 then x + 9223372036854775808 else x - 9223372036854775808
def unI (op k x : Int) : Int × Int :=
  if hasUnB op k = false then (0, 10) else if isB k x = false then (0, 11)
  else if op = 2 then (1 - x, 0) else if op = 3 then (canon k (18446744073709551615 - x), 0) else if k = 10 then (flip x, 0) else (canon k (-x), 0)
end Wd

theorem xor_top {a : Nat} (h : a < 9223372036854775808) : a ^^^ 9223372036854775808 = 9223372036854775808 + a := by
  have e : (9223372036854775808 : Nat) = 2 ^ 63 := by decide
  rw [e] at *
  refine Nat.eq_of_testBit_eq fun i => ?_
  rw [Nat.testBit_xor, Nat.testBit_two_pow]
  rcases Nat.lt_trichotomy i 63 with hi | hi | hi
  · rw [Nat.testBit_two_pow_add_gt hi, decide_eq_false (by omega), Bool.xor_false]
  · subst hi; rw [Nat.testBit_two_pow_add_eq, decide_eq_true rfl, Bool.xor_true]
  · have p : 2 ^ 64 ≤ 2 ^ i := Nat.pow_le_pow_right (by omega) hi
    have q : 2 ^ 64 = 2 ^ 63 + 2 ^ 63 := by decide
    rw [Nat.testBit_lt_two_pow (x := a) (by omega), Nat.testBit_lt_two_pow (x := 2 ^ 63 + a) (by omega), decide_eq_false (by omega), Bool.xor_false]
theorem xor_ones {a : Nat} (h : a < 18446744073709551616) : 18446744073709551615 ^^^ a = 18446744073709551615 - a := by
  have e1 : (18446744073709551615 : Nat) = 2 ^ 64 - 1 := by decide
  have e2 : (18446744073709551615 - a : Nat) = 2 ^ 64 - (a + 1) := by omega
  have h' : a < 2 ^ 64 := h
  rw [e2, e1]
  refine Nat.eq_of_testBit_eq fun i => ?_
  rw [Nat.testBit_xor, Nat.testBit_two_pow_sub_one, Nat.testBit_two_pow_sub_succ h']
  by_cases hi : i < 64
  · simp [hi]
  · have p : 2 ^ 64 ≤ 2 ^ i := Nat.pow_le_pow_right (by omega) (by omega)
    rw [Nat.testBit_lt_two_pow (x := a) (by omega)]; simp [hi]

theorem bits_flip {x : Int} (h1 : 0 ≤ x) (h2 : x < 18446744073709551616) : bits .xor .u64 x 9223372036854775808 = Wd.flip x := by
  rw [Go.u64_xor _ _ h1 h2 (by decide) (by decide), show (9223372036854775808 : Int).toNat = 9223372036854775808 from rfl]
  unfold Wd.flip
  split
  · rw [xor_top (by omega)]; omega
  · have e : x.toNat = (x - 9223372036854775808).toNat ^^^ 9223372036854775808 := by rw [xor_top (by omega)]; omega
    rw [e, Nat.xor_assoc, Nat.xor_self, Nat.xor_zero]; omega
theorem bits_com {x : Int} (h1 : 0 ≤ x) (h2 : x < 18446744073709551616) : bits .xor .u64 IntKind.u64.max x = 18446744073709551615 - x := by
  rw [show IntKind.u64.max = 18446744073709551615 from by decide, Go.u64_xor _ _ (by decide) (by decide) h1 h2, show (18446744073709551615 : Int).toNat = 18446744073709551615 from rfl, xor_ones (by omega)]; omega
theorem bits_not {x : Int} (h1 : 0 ≤ x) (h2 : x ≤ 1) : bits .xor .u64 x 1 = 1 - x := by
  rw [Go.u64_xor _ _ h1 (by omega) (by decide) (by decide)]
  have : x = 0 ∨ x = 1 := by omega
  rcases this with rfl | rfl <;> decide

theorem unI_ok {op k x : Int} (hh : Wd.hasUnB op k = true) (hi : Wd.isB k x = true) :
    Wd.unI op k x = if op = 2 then (1 - x, 0) else if op = 3 then (Wd.canon k (18446744073709551615 - x), 0) else if k = 10 then (Wd.flip x, 0) else (Wd.canon k (-x), 0) := by
  unfold Wd.unI; rw [if_neg (by simp [hh]), if_neg (by simp [hi])]

set_option maxHeartbeats 1000000 in
theorem un_ok (op k x : Int) (w : World) (hx : 0 ≤ x) (hx2 : x < 18446744073709551616) (hh : Wd.hasUnB op k = true) (hi : Wd.isB k x = true) :
    Calls Try.prog 37 #[.int .i64 op, .int .i64 k, .int .u64 x] w fun e w' => e = .returned (.tuple #[.int .u64 (Wd.unI op k x).1, .int .i64 (Wd.unI op k x).2]) ∧ w' = w := by
  have Hu : Hid (_ = _) := unI_ok hh hi
  have Hn : Hid (op = 2 → x ≤ 1) := by
    show op = 2 → x ≤ 1
    rintro rfl
    have hk : k = 1 := by simpa [Wd.hasUnB] using hh
    subst hk
    simp only [Wd.isB, Wd.canon1, Bool.and_eq_true, beq_iff_eq] at hi
    omega
  go_enter Try.func37, Try.ntmps37
  go_wp2_with (first | (go_at_call 46; refine (hasUn_any _ _ _).mono ?_; rintro e w' ⟨rfl, rfl⟩) | (go_at_call 41; refine (is_any _ _ _ (by first | assumption | decide) (by first | assumption | decide)).mono ?_; rintro e w' ⟨rfl, rfl⟩) | (go_at_call 48; go_in) | (go_at_call 47; refine (canon_any _ _ _ (by first | exact (wrap_rng _).1 | (rw [bits_com (by assumption) (by assumption)]; omega)) (by first | exact (wrap_rng _).2 | (rw [bits_com (by assumption) (by assumption)]; omega))).mono ?_; rintro e w' ⟨rfl, rfl⟩))
  all_goals
    go_ret2
    refine ⟨ret_bin ?_, rfl⟩
    show Wd.unI op k x = _
    rw [Hu.out]
  · rw [if_pos (by simpa using ‹(op == 2) = true›), bits_not hx (Hn.out (by simpa using ‹(op == 2) = true›))]
  · rw [if_neg (by simpa using ‹(op == 2) = false›), if_pos (by simpa using ‹(op == 3) = true›), bits_com hx hx2]
  · rw [if_neg (by simpa using ‹(op == 2) = false›), if_neg (by simpa using ‹(op == 3) = false›), if_pos (by simpa using ‹(k == 10) = true›), bits_flip hx hx2]
  · rw [if_neg (by simpa using ‹(op == 2) = false›), if_neg (by simpa using ‹(op == 3) = false›), if_neg (by simpa using ‹(k == 10) = false›), Wd.canon_wrap]

set_option maxHeartbeats 400000 in
theorem un_kind (op k x : Int) (w : World) (hh : Wd.hasUnB op k = false) :
    Calls Try.prog 37 #[.int .i64 op, .int .i64 k, .int .u64 x] w fun e w' => e = .returned (.tuple #[.int .u64 0, .int .i64 10]) ∧ w' = w := by
  go_enter Try.func37, Try.ntmps37
  go_wp2_with (go_at_call 46; refine (hasUn_any _ _ _).mono ?_; rintro e w' ⟨rfl, rfl⟩)
  go_ret2
  exact ⟨rfl, rfl⟩

set_option maxHeartbeats 400000 in
theorem un_form (op k x : Int) (w : World) (hx : 0 ≤ x) (hx2 : x < 18446744073709551616) (hh : Wd.hasUnB op k = true) (hi : Wd.isB k x = false) :
    Calls Try.prog 37 #[.int .i64 op, .int .i64 k, .int .u64 x] w fun e w' => e = .returned (.tuple #[.int .u64 0, .int .i64 11]) ∧ w' = w := by
  go_enter Try.func37, Try.ntmps37
  go_wp2_with (first | (go_at_call 46; refine (hasUn_any _ _ _).mono ?_; rintro e w' ⟨rfl, rfl⟩) | (go_at_call 41; refine (is_any _ _ _ (by assumption) (by assumption)).mono ?_; rintro e w' ⟨rfl, rfl⟩))
  go_ret2
  exact ⟨rfl, rfl⟩

theorem un_any (op k x : Int) (w : World) (hx : 0 ≤ x) (hx2 : x < 18446744073709551616) :
    Calls Try.prog 37 #[.int .i64 op, .int .i64 k, .int .u64 x] w fun e w' => e = .returned (.tuple #[.int .u64 (Wd.unI op k x).1, .int .i64 (Wd.unI op k x).2]) ∧ w' = w := by
  cases hh : Wd.hasUnB op k
  · have e : Wd.unI op k x = (0, 10) := by unfold Wd.unI; rw [if_pos hh]
    rw [e]; exact un_kind op k x w hh
  · cases hi : Wd.isB k x
    · have e : Wd.unI op k x = (0, 11) := by unfold Wd.unI; rw [if_neg (by simp [hh]), if_pos hi]
      rw [e]; exact un_form op k x w hx hx2 hh hi
    · exact un_ok op k x w hx hx2 hh hi

end Go.Proofs.Ytkpmhgkljedapaa
