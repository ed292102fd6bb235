/- The page's Bin, at every operation and kind; its Un; its Conv: contracts. -/
import Derived.Test.YtjhcamcdmebpnaaRBig
namespace Go.Proofs.Ytjhcamcdmebpnaa
open Go.RowKit
set_option linter.unusedVariables false

theorem is_canon {k x : Int} (h : Wd.isB k x = true) : Wd.canon k x = x := by simp [Wd.isB] at h; exact h.2
theorem int_of {op k : Int} (hk : (k == 10) = false) (h : Wd.hasBinB op k = true) : k = 1 ∨ k = 11 ∨ 2 ≤ k ∧ k ≤ 9 := by
  have : k ≠ 10 := by simpa using hk
  simp [Wd.hasBinB, Wd.intB, Wd.cmpB] at h; omega
theorem int_of' {op k : Int} (hk : (k == 10) = false) (ho : op = 4 ∨ op = 5 ∨ op = 9 ∨ op = 10) (h : Wd.hasBinB op k = true) : 2 ≤ k ∧ k ≤ 9 := by
  have : k ≠ 10 := by simpa using hk
  simp [Wd.hasBinB, Wd.intB, Wd.cmpB] at h; omega
theorem int_of'' {op k : Int} (hk : (k == 10) = false) (ho : op = 6 ∨ op = 7 ∨ op = 8) (h : Wd.hasBinB op k = true) : k = 1 ∨ 2 ≤ k ∧ k ≤ 9 := by
  have : k ≠ 10 := by simpa using hk
  simp [Wd.hasBinB, Wd.intB, Wd.cmpB] at h; omega

set_option maxHeartbeats 2000000 in
theorem rbin_div (op k x y : Int) (w : World) (hx : 0 ≤ x) (hx2 : x < 18446744073709551616) (hy : 0 < y) (hy2 : y < 18446744073709551616) (hk : (k == 10) = false) (ho : op = 4 ∨ op = 5)
    (hh : Wd.hasBinB op k = true) (hix : Wd.isB k x = true) (hiy : Wd.isB k y = true) :
    Calls Try.prog 12 #[.int .i64 op, .int .i64 k, .int .u64 x, .int .u64 y] w fun e w' => e = .returned (.tuple #[.int .u64 (Wd.wv op k x y), .int .i64 0]) ∧ ∃ n, w' = w.drewN n := by
  obtain ⟨k1, k2⟩ := int_of' hk (by omega) hh
  have Hx : Hid (_ = _) := is_canon hix
  have Hy : Hid (_ = _) := is_canon hiy
  have hy0 : 0 ≤ y := by omega
  have hy1 : (y == 0) = false := by rw [beq_eq_false_iff_ne]; omega
  rcases ho with rfl | rfl
  all_goals
    go_enter Try.func12, Try.ntmps12
    go_wp2_with (first | (go_at_call 36; refine (rhasBin_any _ _ _).mono ?_; rintro e w' ⟨rfl, rfl⟩) | (go_at_call 22; refine (ris_any _ _ _ (by assumption) (by assumption)).mono ?_; rintro e w' ⟨rfl, rfl⟩) | (go_at_call 37; go_in) | (go_at_call 40; refine (divided_any _ _ _ _ (by assumption) (by assumption) (by assumption) (by assumption) (by assumption) (by assumption) Hx.out Hy.out).mono ?_; rintro e w' ⟨rfl, n, rfl⟩))
    go_ret2
    exact ⟨rfl, _, rfl⟩

set_option maxHeartbeats 2000000 in
theorem rbin_zero (op k x : Int) (w : World) (hx : 0 ≤ x) (hx2 : x < 18446744073709551616) (hk : (k == 10) = false) (ho : op = 4 ∨ op = 5)
    (hh : Wd.hasBinB op k = true) (hix : Wd.isB k x = true) (hiy : Wd.isB k 0 = true) :
    Calls Try.prog 12 #[.int .i64 op, .int .i64 k, .int .u64 x, .int .u64 0] w fun e w' => e = .returned (.tuple #[.int .u64 0, .int .i64 12]) ∧ w' = w := by
  rcases ho with rfl | rfl
  all_goals
    go_enter Try.func12, Try.ntmps12
    go_wp2_with (first | (go_at_call 36; refine (rhasBin_any _ _ _).mono ?_; rintro e w' ⟨rfl, rfl⟩) | (go_at_call 22; refine (ris_any _ _ _ (by first | assumption | decide) (by first | assumption | decide)).mono ?_; rintro e w' ⟨rfl, rfl⟩) | (go_at_call 37; go_in))
    go_ret2
    exact ⟨rfl, rfl⟩

set_option maxHeartbeats 2000000 in
theorem rbin_bits (op k x y : Int) (w : World) (hx : 0 ≤ x) (hx2 : x < 18446744073709551616) (hy : 0 ≤ y) (hy2 : y < 18446744073709551616) (hk : (k == 10) = false) (ho : op = 6 ∨ op = 7 ∨ op = 8)
    (hh : Wd.hasBinB op k = true) (hix : Wd.isB k x = true) (hiy : Wd.isB k y = true) :
    Calls Try.prog 12 #[.int .i64 op, .int .i64 k, .int .u64 x, .int .u64 y] w fun e w' => e = .returned (.tuple #[.int .u64 (Wd.wv op k x y), .int .i64 0]) ∧ w' = w := by
  obtain ⟨b1, b2, b3⟩ := Wd.bits_word (int_of'' hk ho hh) (is_canon hix) (is_canon hiy)
  have H1 : Hid (_ = _) := (Go.u64_and _ _ hx hx2 hy hy2).trans (b1.symm.trans (Wd.wv6 k x y).symm)
  have H2 : Hid (_ = _) := (Go.u64_or _ _ hx hx2 hy hy2).trans (b2.symm.trans (Wd.wv7 k x y).symm)
  have H3 : Hid (_ = _) := (Go.u64_xor _ _ hx hx2 hy hy2).trans (b3.symm.trans (Wd.wv8 k x y).symm)
  clear b1 b2 b3
  rcases ho with rfl | rfl | rfl
  all_goals
    go_enter Try.func12, Try.ntmps12
    go_wp2_with (first | (go_at_call 36; refine (rhasBin_any _ _ _).mono ?_; rintro e w' ⟨rfl, rfl⟩) | (go_at_call 22; refine (ris_any _ _ _ (by assumption) (by assumption)).mono ?_; rintro e w' ⟨rfl, rfl⟩) | (go_at_call 37; go_in))
    go_ret2
    refine ⟨ret_bin ?_, rfl⟩
    first | rw [H1.out] | rw [H2.out] | rw [H3.out]

set_option maxHeartbeats 2000000 in
theorem rbin_shift (op k x y : Int) (w : World) (hx : 0 ≤ x) (hx2 : x < 18446744073709551616) (hy : 0 ≤ y) (hy2 : y < 18446744073709551616) (hk : (k == 10) = false) (ho : op = 9 ∨ op = 10)
    (hh : Wd.hasBinB op k = true) (hix : Wd.isB k x = true) :
    Calls Try.prog 12 #[.int .i64 op, .int .i64 k, .int .u64 x, .int .u64 y] w fun e w' => e = .returned (.tuple #[.int .u64 (Wd.wv op k x y), .int .i64 0]) ∧ w' = w := by
  obtain ⟨k1, k2⟩ := int_of' hk (by omega) hh
  have Hx : Hid (_ = _) := is_canon hix
  rcases ho with rfl | rfl
  all_goals
    go_enter Try.func12, Try.ntmps12
    go_wp2_with (first | (go_at_call 36; refine (rhasBin_any _ _ _).mono ?_; rintro e w' ⟨rfl, rfl⟩) | (go_at_call 22; refine (ris_any _ _ _ (by assumption) (by assumption)).mono ?_; rintro e w' ⟨rfl, rfl⟩) | (go_at_call 37; go_in) | (go_at_call 41; refine (shifted_any _ _ _ _ _ (by assumption) (by assumption) (by assumption) (by assumption) (by decide) (by assumption) (by assumption) Hx.out).mono ?_; rintro e w' ⟨rfl, rfl⟩))
    go_ret2
    exact ⟨rfl, rfl⟩

set_option maxHeartbeats 2000000 in
theorem rbin_cmp (op k x y : Int) (w : World) (hx : 0 ≤ x) (hx2 : x < 18446744073709551616) (hy : 0 ≤ y) (hy2 : y < 18446744073709551616) (hk : (k == 10) = false) (h1 : 11 ≤ op) (h2 : op ≤ 16)
    (hh : Wd.hasBinB op k = true) (hix : Wd.isB k x = true) (hiy : Wd.isB k y = true) :
    Calls Try.prog 12 #[.int .i64 op, .int .i64 k, .int .u64 x, .int .u64 y] w fun e w' => e = .returned (.tuple #[.int .u64 (Wd.wv op k x y), .int .i64 0]) ∧ w' = w := by
  have ho : op = 11 ∨ op = 12 ∨ op = 13 ∨ op = 14 ∨ op = 15 ∨ op = 16 := by omega
  have H1 : Hid (_ = _) := Wd.wv11 (k := k) hx hx2 hy hy2
  have H2 : Hid (_ = _) := Wd.wv12 (k := k) hx hx2 hy hy2
  clear h1 h2
  rcases ho with rfl | rfl | rfl | rfl | rfl | rfl
  all_goals
    go_enter Try.func12, Try.ntmps12
    go_wp2_with (first | (go_at_call 36; refine (rhasBin_any _ _ _).mono ?_; rintro e w' ⟨rfl, rfl⟩) | (go_at_call 22; refine (ris_any _ _ _ (by assumption) (by assumption)).mono ?_; rintro e w' ⟨rfl, rfl⟩) | (go_at_call 37; go_in) | (go_at_call 43; refine (rbelow_any _ _ _ _).mono ?_; rintro e w' ⟨rfl, rfl⟩) | (go_at_call 42; refine (rtruth_any _ _).mono ?_; rintro e w' ⟨rfl, rfl⟩))
    go_ret2
    refine ⟨ret_bin ?_, rfl⟩
    first | rw [H1.out] | rw [H2.out] | rw [Wd.wv13] | rw [Wd.wv14] | rw [Wd.wv15] | rw [Wd.wv16]

end Go.Proofs.Ytjhcamcdmebpnaa
