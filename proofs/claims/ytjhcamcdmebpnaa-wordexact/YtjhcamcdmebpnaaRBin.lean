/- The page's own reckoning of two words: contracts. -/
import Derived.Test.YtjhcamcdmebpnaaRLeaf
import Derived.RegionTactic
namespace Go.Proofs.Ytjhcamcdmebpnaa
open Go.RowKit
set_option linter.unusedVariables false

set_option maxHeartbeats 400000 in
theorem rbits_no (b : Nat) (w : World) (h : (Ieee.double.read b).isNaN = false) :
    Calls Try.prog 46 #[.float .f64 b] w fun e w' => e = .returned (.int .u64 b) ∧ w' = w := by
  have hb := tobits b
  have hs := self_eq h
  clear h
  go_enter Try.func46, Try.ntmps46
  go_wp2
  go_ret
  exact ⟨rfl, rfl⟩
set_option maxHeartbeats 400000 in
theorem rbits_yes (b : Nat) (w : World) (h : (Ieee.double.read b).isNaN = true) :
    Calls Try.prog 46 #[.float .f64 b] w fun e w' => e = .returned (.int .u64 Fl.theNaN) ∧ w' = w := by
  have hs := self_ne h
  clear h
  go_enter Try.func46, Try.ntmps46
  go_wp2
  go_ret
  exact ⟨rfl, rfl⟩

set_option maxHeartbeats 400000 in
theorem rfloats_cmp (op x y : Int) (w : World) (h1 : 11 ≤ op) (h2 : op ≤ 16) :
    Calls Try.prog 38 #[.int .i64 op, .float .f64 x.toNat, .float .f64 y.toNat] w fun e w' => e = .returned (.int .u64 (Fl.cmpF op x y)) ∧ w' = w := by
  have ho : op = 11 ∨ op = 12 ∨ op = 13 ∨ op = 14 ∨ op = 15 ∨ op = 16 := by omega
  clear h1 h2
  rcases ho with rfl | rfl | rfl | rfl | rfl | rfl
  all_goals
    go_enter Try.func38, Try.ntmps38
    go_wp2_with (go_at_call 42; refine (rtruth_any _ _).mono ?_; rintro e w' ⟨rfl, rfl⟩)
    go_ret
    exact ⟨rfl, rfl⟩

set_option maxHeartbeats 400000 in
theorem rfloats_add (x y : Int) (w : World) :
    Calls Try.prog 38 #[.int .i64 1, .float .f64 x.toNat, .float .f64 y.toNat] w fun e w' => e = .returned (.int .u64 (Fl.ar 1 x y)) ∧ ∃ n, w' = w.drewN n := by
  cases hr : floatBits .add .f64 x.toNat y.toNat with
  | some r =>
    have Ha : Hid (Fl.ar 1 x y = r) := by show (match floatBits .add .f64 x.toNat y.toNat with | some r => (r : Int) | none => Fl.theNaN) = (r : Int); rw [hr]
    have Hn : Hid ((Ieee.double.read r).isNaN = false) := Fl.raw_ok (op := 1) (x := x) (y := y) hr
    have hrun := fun (w : World) (t : TypeId) => run_float_arith (P := Try.prog) w .add t .f64 x.toNat y.toNat r hr
    clear hr
    go_enter Try.func38, Try.ntmps38
    go_wp2_with (go_at_call 46; refine (rbits_no _ _ Hn.out).mono ?_; rintro e w' ⟨rfl, rfl⟩)
    go_ret
    exact ⟨ret_u64 Ha.out.symm, 0, rfl⟩
  | none =>
    have Ha : Hid (Fl.ar 1 x y = Fl.theNaN) := by show (match floatBits .add .f64 x.toNat y.toNat with | some r => (r : Int) | none => Fl.theNaN) = _; rw [hr]
    have hrun := fun (w : World) (t : TypeId) => run_nan .add t x.toNat y.toNat hr (by simp) w
    clear hr
    go_enter Try.func38, Try.ntmps38
    go_wp2_with (go_at_call 46; refine (rbits_yes _ _ (anyNaN_is _ _ _)).mono ?_; rintro e w' ⟨rfl, rfl⟩)
    go_ret
    exact ⟨ret_u64 Ha.out.symm, 1, rfl⟩
set_option maxHeartbeats 400000 in
theorem rfloats_sub (x y : Int) (w : World) :
    Calls Try.prog 38 #[.int .i64 2, .float .f64 x.toNat, .float .f64 y.toNat] w fun e w' => e = .returned (.int .u64 (Fl.ar 2 x y)) ∧ ∃ n, w' = w.drewN n := by
  cases hr : floatBits .sub .f64 x.toNat y.toNat with
  | some r =>
    have Ha : Hid (Fl.ar 2 x y = r) := by show (match floatBits .sub .f64 x.toNat y.toNat with | some r => (r : Int) | none => Fl.theNaN) = (r : Int); rw [hr]
    have Hn : Hid ((Ieee.double.read r).isNaN = false) := Fl.raw_ok (op := 2) (x := x) (y := y) hr
    have hrun := fun (w : World) (t : TypeId) => run_float_arith (P := Try.prog) w .sub t .f64 x.toNat y.toNat r hr
    clear hr
    go_enter Try.func38, Try.ntmps38
    go_wp2_with (go_at_call 46; refine (rbits_no _ _ Hn.out).mono ?_; rintro e w' ⟨rfl, rfl⟩)
    go_ret
    exact ⟨ret_u64 Ha.out.symm, 0, rfl⟩
  | none =>
    have Ha : Hid (Fl.ar 2 x y = Fl.theNaN) := by show (match floatBits .sub .f64 x.toNat y.toNat with | some r => (r : Int) | none => Fl.theNaN) = _; rw [hr]
    have hrun := fun (w : World) (t : TypeId) => run_nan .sub t x.toNat y.toNat hr (by simp) w
    clear hr
    go_enter Try.func38, Try.ntmps38
    go_wp2_with (go_at_call 46; refine (rbits_yes _ _ (anyNaN_is _ _ _)).mono ?_; rintro e w' ⟨rfl, rfl⟩)
    go_ret
    exact ⟨ret_u64 Ha.out.symm, 1, rfl⟩
set_option maxHeartbeats 400000 in
theorem rfloats_mul (x y : Int) (w : World) :
    Calls Try.prog 38 #[.int .i64 3, .float .f64 x.toNat, .float .f64 y.toNat] w fun e w' => e = .returned (.int .u64 (Fl.ar 3 x y)) ∧ ∃ n, w' = w.drewN n := by
  cases hr : floatBits .mul .f64 x.toNat y.toNat with
  | some r =>
    have Ha : Hid (Fl.ar 3 x y = r) := by show (match floatBits .mul .f64 x.toNat y.toNat with | some r => (r : Int) | none => Fl.theNaN) = (r : Int); rw [hr]
    have Hn : Hid ((Ieee.double.read r).isNaN = false) := Fl.raw_ok (op := 3) (x := x) (y := y) hr
    have hrun := fun (w : World) (t : TypeId) => run_float_arith (P := Try.prog) w .mul t .f64 x.toNat y.toNat r hr
    clear hr
    go_enter Try.func38, Try.ntmps38
    go_wp2_with (go_at_call 46; refine (rbits_no _ _ Hn.out).mono ?_; rintro e w' ⟨rfl, rfl⟩)
    go_ret
    exact ⟨ret_u64 Ha.out.symm, 0, rfl⟩
  | none =>
    have Ha : Hid (Fl.ar 3 x y = Fl.theNaN) := by show (match floatBits .mul .f64 x.toNat y.toNat with | some r => (r : Int) | none => Fl.theNaN) = _; rw [hr]
    have hrun := fun (w : World) (t : TypeId) => run_nan .mul t x.toNat y.toNat hr (by simp) w
    clear hr
    go_enter Try.func38, Try.ntmps38
    go_wp2_with (go_at_call 46; refine (rbits_yes _ _ (anyNaN_is _ _ _)).mono ?_; rintro e w' ⟨rfl, rfl⟩)
    go_ret
    exact ⟨ret_u64 Ha.out.symm, 1, rfl⟩
set_option maxHeartbeats 400000 in
theorem rfloats_quo (x y : Int) (w : World) :
    Calls Try.prog 38 #[.int .i64 4, .float .f64 x.toNat, .float .f64 y.toNat] w fun e w' => e = .returned (.int .u64 (Fl.ar 4 x y)) ∧ ∃ n, w' = w.drewN n := by
  cases hr : floatBits .quo .f64 x.toNat y.toNat with
  | some r =>
    have Ha : Hid (Fl.ar 4 x y = r) := by show (match floatBits .quo .f64 x.toNat y.toNat with | some r => (r : Int) | none => Fl.theNaN) = (r : Int); rw [hr]
    have Hn : Hid ((Ieee.double.read r).isNaN = false) := Fl.raw_ok (op := 4) (x := x) (y := y) hr
    have hrun := fun (w : World) (t : TypeId) => run_float_arith (P := Try.prog) w .quo t .f64 x.toNat y.toNat r hr
    clear hr
    go_enter Try.func38, Try.ntmps38
    go_wp2_with (go_at_call 46; refine (rbits_no _ _ Hn.out).mono ?_; rintro e w' ⟨rfl, rfl⟩)
    go_ret
    exact ⟨ret_u64 Ha.out.symm, 0, rfl⟩
  | none =>
    have Ha : Hid (Fl.ar 4 x y = Fl.theNaN) := by show (match floatBits .quo .f64 x.toNat y.toNat with | some r => (r : Int) | none => Fl.theNaN) = _; rw [hr]
    have hrun := fun (w : World) (t : TypeId) => run_nan .quo t x.toNat y.toNat hr (by simp) w
    clear hr
    go_enter Try.func38, Try.ntmps38
    go_wp2_with (go_at_call 46; refine (rbits_yes _ _ (anyNaN_is _ _ _)).mono ?_; rintro e w' ⟨rfl, rfl⟩)
    go_ret
    exact ⟨ret_u64 Ha.out.symm, 1, rfl⟩

theorem rfloats_any (op x y : Int) (w : World) (hop : Wd.hasBinB op 10 = true) :
    Calls Try.prog 38 #[.int .i64 op, .float .f64 x.toNat, .float .f64 y.toNat] w fun e w' => e = .returned (.int .u64 (Fl.bf op x y)) ∧ ∃ n, w' = w.drewN n := by
  unfold Fl.bf
  cases hc : Wd.cmpB op
  · have ho : op = 1 ∨ op = 2 ∨ op = 3 ∨ op = 4 := by
      simp [Wd.hasBinB, Wd.intB, hc] at hop; omega
    rw [if_neg (by simp)]
    rcases ho with rfl | rfl | rfl | rfl
    · exact rfloats_add x y w
    · exact rfloats_sub x y w
    · exact rfloats_mul x y w
    · exact rfloats_quo x y w
  · rw [if_pos rfl]
    have : 11 ≤ op ∧ op ≤ 16 := by simpa [Wd.cmpB] using hc
    refine (rfloats_cmp op x y w this.1 this.2).mono ?_
    rintro e w' ⟨rfl, rfl⟩
    exact ⟨rfl, 0, rfl⟩

set_option maxHeartbeats 400000 in
theorem rdivU (k x y : Int) (w : World) (hx : 0 ≤ x) (hx2 : x < 18446744073709551616) (hy : 0 < y) (hy2 : y < 18446744073709551616) (hs : Wd.sgnB k = false) :
    Calls Try.prog 40 #[.int .i64 k, .int .u64 x, .int .u64 y] w fun e w' => e = .returned (.tuple #[.int .u64 (x / y), .int .u64 (x % y)]) ∧ ∃ n, w' = w.drewN n := by
  go_enter Try.func40, Try.ntmps40
  go_wp2_with (go_at_call 45; refine (rsigned_any _ _).mono ?_; rintro e w' ⟨rfl, rfl⟩)
  go_quiet (fail)
  go_wp2
  go_ret2
  exact ⟨rfl, _, rfl⟩

set_option maxHeartbeats 400000 in
theorem rdivM (k x y : Int) (w : World) (hx : 0 ≤ x) (hx2 : x < 18446744073709551616) (hs : Wd.sgnB k = true) (hm : (wrap64 y == -1) = true) :
    Calls Try.prog 40 #[.int .i64 k, .int .u64 x, .int .u64 y] w fun e w' => e = .returned (.tuple #[.int .u64 (Wd.canon k (-x)), .int .u64 0]) ∧ ∃ n, w' = w.drewN n := by
  have Hc : Hid (∀ z, Wd.canon k (IntKind.u64.wrap z) = Wd.canon k z) := fun z => Wd.canon_wrap k z
  go_enter Try.func40, Try.ntmps40
  go_wp2_with (first | (go_at_call 45; refine (rsigned_any _ _).mono ?_; rintro e w' ⟨rfl, rfl⟩) | (go_at_call 20; refine (rcanon_any _ _ _ (wrap_rng _).1 (wrap_rng _).2).mono ?_; rintro e w' ⟨rfl, rfl⟩))
  go_ret2
  refine ⟨?_, 0, rfl⟩
  simp [Hc.out]

set_option maxHeartbeats 1000000 in
theorem rdivS (k x y : Int) (w : World) (hy : 0 < y) (hy2 : y < 18446744073709551616) (hs : Wd.sgnB k = true) (hm : (wrap64 y == -1) = false) :
    Calls Try.prog 40 #[.int .i64 k, .int .u64 x, .int .u64 y] w fun e w' => e = .returned (.tuple #[.int .u64 (Wd.canon k ((Wd.sg x).tdiv (Wd.sg y))), .int .u64 (Wd.canon k ((Wd.sg x).tmod (Wd.sg y)))]) ∧ ∃ n, w' = w.drewN n := by
  have Hc : Hid (∀ z, Wd.canon k (IntKind.u64.wrap z) = Wd.canon k z) := fun z => Wd.canon_wrap k z
  have hy3 : ¬ wrap64 y = 0 := by have := sg_ne hy hy2; simpa using this
  go_enter Try.func40, Try.ntmps40
  go_wp2_with (go_at_call 45; refine (rsigned_any _ _).mono ?_; rintro e w' ⟨rfl, rfl⟩)
  go_quiet ((go_at_call 20; exact Calls.quiet_of_same (rcanon_any _ _ _ (wrap_rng _).1 (wrap_rng _).2)))
  go_wp2
  go_ret2
  refine ⟨?_, _, rfl⟩
  simp only [Wd.canon_wrap, canon_sg, sg_wrap]
  rfl

namespace Wd
theorem signs_bit {k : Int} (h1 : 2 ≤ k) (h2 : k ≤ 5) : ∃ m O : Nat, ∀ x : Nat, x < 18446744073709551616 → ((canon k (x : Int) = x) ↔ (x >>> m = 0 ∨ x >>> m = O)) := by
  rcases signs h1 h2 with h | h | h | h
  · subst h; exact ⟨7, 144115188075855871, fun x hx => by rw [Nat.shiftRight_eq_div_pow, canon2]; omega⟩
  · subst h; exact ⟨15, 562949953421311, fun x hx => by rw [Nat.shiftRight_eq_div_pow, canon3]; omega⟩
  · subst h; exact ⟨31, 8589934591, fun x hx => by rw [Nat.shiftRight_eq_div_pow, canon4]; omega⟩
  · subst h; exact ⟨63, 1, fun x hx => by rw [Nat.shiftRight_eq_div_pow, canon5]; omega⟩

theorem bits_word {k x y : Int} (hk : k = 1 ∨ 2 ≤ k ∧ k ≤ 9) (hx : canon k x = x) (hy : canon k y = y) :
    canon k (x.toNat &&& y.toNat : Nat) = (x.toNat &&& y.toNat : Nat) ∧ canon k (x.toNat ||| y.toNat : Nat) = (x.toNat ||| y.toNat : Nat) ∧ canon k (x.toNat ^^^ y.toNat : Nat) = (x.toNat ^^^ y.toNat : Nat) := by
  have ⟨a1, a2⟩ := word_nn hx
  have ⟨b1, b2⟩ := word_nn hy
  rcases hk with rfl | ⟨h1, h2⟩
  · rw [canon1] at hx hy
    have : x = 0 ∨ x = 1 := by omega
    have : y = 0 ∨ y = 1 := by omega
    rcases ‹x = 0 ∨ x = 1› with rfl | rfl <;> rcases ‹y = 0 ∨ y = 1› with rfl | rfl <;> decide
  · have l1 := land_lt a1 a2 b1 b2
    have l2 := lor_lt a1 a2 b1 b2
    have l3 := lxor_lt a1 a2 b1 b2
    by_cases h : k ≤ 5
    · obtain ⟨m, O, hm⟩ := signs_bit h1 h
      have ex := (hm x.toNat (by omega)).1 (by rw [Int.toNat_of_nonneg a1]; exact hx)
      have ey := (hm y.toNat (by omega)).1 (by rw [Int.toNat_of_nonneg b1]; exact hy)
      refine ⟨(hm _ (by omega)).2 ?_, (hm _ (by omega)).2 ?_, (hm _ (by omega)).2 ?_⟩
      · rw [Nat.shiftRight_and_distrib]; rcases ex with e | e <;> rcases ey with g | g <;> rw [e, g] <;> simp
      · rw [Nat.shiftRight_or_distrib]; rcases ex with e | e <;> rcases ey with g | g <;> rw [e, g] <;> simp
      · rw [Nat.shiftRight_xor_distrib]; rcases ex with e | e <;> rcases ey with g | g <;> rw [e, g] <;> simp
    · have ux := u_in (k := k) (by omega) h2 hx
      have uy := u_in (k := k) (by omega) h2 hy
      rw [pw_ww (by omega) h2] at ux uy
      have x3 : x.toNat < 2 ^ ww k := by omega
      have y3 : y.toNat < 2 ^ ww k := by omega
      have g1 := Nat.and_lt_two_pow x.toNat y3
      have g2 := Nat.or_lt_two_pow x3 y3
      have g3 := Nat.xor_lt_two_pow x3 y3
      refine ⟨canon_uin (by omega) h2 (by omega) ?_, canon_uin (by omega) h2 (by omega) ?_, canon_uin (by omega) h2 (by omega) ?_⟩ <;> rw [pw_ww (by omega) h2] <;> omega
end Wd

end Go.Proofs.Ytjhcamcdmebpnaa
