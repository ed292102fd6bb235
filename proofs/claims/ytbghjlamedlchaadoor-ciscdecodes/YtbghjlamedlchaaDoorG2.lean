/- Contracts and plain facts that the walks share, text by text: Reckon, Bins, BinI, Bin, Un, FPlain, FWalk, Modulo, Ring, FBin, FLaws, FConv, Conv. -/
import Derived.Test.YtbghjlamedlchaaDoorG1
import Derived.WalkLawsBesides
import Derived.Laws.FloatArith
import Derived.Deep.Draws
/- What is reckoned of two ints: contracts. -/
namespace Go.Proofs.YtbghjlamedlchaaDoor
open Go.RowKit

theorem cmpI_tr {op a b : Int} : Wd.cmpI op a b = 0 ∨ Wd.cmpI op a b = 1 := by
  unfold Wd.cmpI Wd.tr; repeat' split
  all_goals simp

set_option maxHeartbeats 400000 in
theorem compareU_any (op a b : Int) (w : World) :
    Calls Tryd.prog 94 #[.int .i64 op, .int .u64 a, .int .u64 b] w fun e w' => e = .returned (.int .u64 (Wd.cmpI op a b)) ∧ w' = w := by
  go_enter Tryd.func94, Tryd.ntmps94
  go_wp2
  all_goals (go_ret; refine ⟨ret_u64 ?_, rfl⟩; simp only [beq_iff_eq, beq_eq_false_iff_ne] at *; unfold Wd.cmpI Wd.tr; simp_all <;> omega)

set_option maxHeartbeats 400000 in
theorem compareI_any (op a b : Int) (w : World) :
    Calls Tryd.prog 93 #[.int .i64 op, .int .i64 a, .int .i64 b] w fun e w' => e = .returned (.int .u64 (Wd.cmpI op a b)) ∧ w' = w := by
  go_enter Tryd.func93, Tryd.ntmps93
  go_wp2
  all_goals (go_ret; refine ⟨ret_u64 ?_, rfl⟩; simp only [beq_iff_eq, beq_eq_false_iff_ne] at *; unfold Wd.cmpI Wd.tr; simp_all <;> omega)

end Go.Proofs.YtbghjlamedlchaaDoor

/- binUnsigned, binSigned: contracts. -/
namespace Go.Proofs.YtbghjlamedlchaaDoor
open Go.RowKit
set_option linter.unusedVariables false

theorem ops16 {op : Int} (h1 : 1 ≤ op) (h2 : op ≤ 16) : op = 1 ∨ op = 2 ∨ op = 3 ∨ op = 4 ∨ op = 5 ∨ op = 6 ∨ op = 7 ∨ op = 8 ∨ op = 9 ∨ op = 10 ∨ op = 11 ∨ op = 12 ∨ op = 13 ∨ op = 14 ∨ op = 15 ∨ op = 16 := by omega

theorem wrap_rng (x : Int) : 0 ≤ IntKind.u64.wrap x ∧ IntKind.u64.wrap x < 18446744073709551616 := by rw [IntKind.wrap_u64]; omega
theorem land_lt {a b : Int} (ha : 0 ≤ a) (ha2 : a < 18446744073709551616) (hb : 0 ≤ b) (hb2 : b < 18446744073709551616) : ((a.toNat &&& b.toNat : Nat) : Int) < 18446744073709551616 := by
  have := Nat.and_lt_two_pow (n := 64) a.toNat (y := b.toNat) (by omega); omega
theorem lor_lt {a b : Int} (ha : 0 ≤ a) (ha2 : a < 18446744073709551616) (hb : 0 ≤ b) (hb2 : b < 18446744073709551616) : ((a.toNat ||| b.toNat : Nat) : Int) < 18446744073709551616 := by
  have := Nat.or_lt_two_pow (n := 64) (x := a.toNat) (y := b.toNat) (by omega) (by omega); omega
theorem lxor_lt {a b : Int} (ha : 0 ≤ a) (ha2 : a < 18446744073709551616) (hb : 0 ≤ b) (hb2 : b < 18446744073709551616) : ((a.toNat ^^^ b.toNat : Nat) : Int) < 18446744073709551616 := by
  have := Nat.xor_lt_two_pow (n := 64) (x := a.toNat) (y := b.toNat) (by omega) (by omega); omega
theorem div_rng {x y : Int} (hx : 0 ≤ x) (hx2 : x < 18446744073709551616) (hy : 0 < y) : 0 ≤ x / y ∧ x / y < 18446744073709551616 :=
  ⟨Int.ediv_nonneg hx (by omega), Int.lt_of_le_of_lt (Int.ediv_le_self y hx) hx2⟩
theorem mod_rng {x y : Int} (hx : 0 ≤ x) (hy2 : y < 18446744073709551616) (hy : 0 < y) : 0 ≤ x % y ∧ x % y < 18446744073709551616 :=
  ⟨Int.emod_nonneg x (by omega), Int.lt_trans (Int.emod_lt_of_pos x hy) hy2⟩
theorem shr_rng {x : Int} (n : Nat) (hx : 0 ≤ x) (hx2 : x < 18446744073709551616) : 0 ≤ x / 2 ^ n ∧ x / 2 ^ n < 18446744073709551616 :=
  div_rng hx hx2 (Int.pow_pos (by omega))

set_option maxHeartbeats 1000000 in
theorem binU_any (op k x y : Int) (w : World) (hx : 0 ≤ x) (hx2 : x < 18446744073709551616) (hy : 0 ≤ y) (hy2 : y < 18446744073709551616) (h1 : 1 ≤ op) (h2 : op ≤ 16) (hz : op = 4 ∨ op = 5 → 0 < y) :
    Calls Tryd.prog 82 #[.int .i64 op, .int .i64 k, .int .u64 x, .int .u64 y] w fun e w' => e = .returned (.int .u64 (Wd.bu op k x y)) ∧ w' = w := by
  have Hz : Hid (op = 4 ∨ op = 5 → 0 < y) := hz
  clear hz
  rcases ops16 h1 h2 with h | h | h | h | h | h | h | h | h | h | h | h | h | h | h | h
  all_goals
    subst h
    first | have hy0 : 0 < y := Hz.out (by decide) | skip
    clear Hz h1 h2
    go_enter Tryd.func82, Tryd.ntmps82
    go_wp2_with (first | (go_at_call 88; go_in) | (go_at_call 94; refine (compareU_any _ _ _ _).mono ?_; rintro e w' ⟨rfl, rfl⟩))
    first
      | (go_ret; exact ⟨rfl, rfl⟩)
      | (refine (canon_any _ _ _ ?_ ?_).mono ?_
         · first | exact (wrap_rng _).1 | exact (div_rng hx hx2 hy0).1 | exact (mod_rng hx hy2 hy0).1 | exact (shr_rng _ hx hx2).1 | (simp only [Go.u64_and _ _ hx hx2 hy hy2, Go.u64_or _ _ hx hx2 hy hy2, Go.u64_xor _ _ hx hx2 hy hy2]; omega)
         · first | exact (wrap_rng _).2 | exact (div_rng hx hx2 hy0).2 | exact (mod_rng hx hy2 hy0).2 | exact (shr_rng _ hx hx2).2 | (rw [Go.u64_and _ _ hx hx2 hy hy2]; exact land_lt hx hx2 hy hy2) | (rw [Go.u64_or _ _ hx hx2 hy hy2]; exact lor_lt hx hx2 hy hy2) | (rw [Go.u64_xor _ _ hx hx2 hy hy2]; exact lxor_lt hx hx2 hy hy2)
         · rintro e w' ⟨rfl, rfl⟩
           go_wp2
           go_ret
           refine ⟨ret_u64 ?_, rfl⟩
           simp only [Wd.bu1, Wd.bu2, Wd.bu3, Wd.bu4, Wd.bu5, Wd.bu6, Wd.bu7, Wd.bu8, Wd.bu9, Wd.bu10, Wd.canon_wrap, Go.u64_and _ _ hx hx2 hy hy2, Go.u64_or _ _ hx hx2 hy hy2, Go.u64_xor _ _ hx hx2 hy hy2])

theorem sg_wrap (x : Int) : wrap64 x = Wd.sg x := by unfold wrap64 Wd.sg; rfl
theorem sg_ne {y : Int} (h : 0 < y) (h2 : y < 18446744073709551616) : (wrap64 y == 0) = false := by rw [beq_eq_false_iff_ne]; unfold wrap64; omega
theorem canon_sg (k x : Int) : Wd.canon k (Wd.sg x) = Wd.canon k x := by
  rw [← Wd.canon_mod k x, ← Wd.canon_mod k (Wd.sg x)]; congr 1; unfold Wd.sg; omega

set_option maxHeartbeats 1000000 in
theorem binS_any (op k x y : Int) (w : World) (hx : 0 ≤ x) (hx2 : x < 18446744073709551616) (hy : 0 ≤ y) (hy2 : y < 18446744073709551616) (h1 : 1 ≤ op) (h2 : op ≤ 16) (hz : op = 4 ∨ op = 5 → 0 < y) :
    Calls Tryd.prog 81 #[.int .i64 op, .int .i64 k, .int .u64 x, .int .u64 y] w fun e w' => e = .returned (.int .u64 (Wd.bs op k x y)) ∧ w' = w := by
  have Hz : Hid (op = 4 ∨ op = 5 → 0 < y) := hz
  clear hz
  rcases ops16 h1 h2 with h | h | h | h | h | h | h | h | h | h | h | h | h | h | h | h
  all_goals
    subst h
    first | (have hy0 : 0 < y := Hz.out (by decide); have hy3 : ¬ wrap64 y = 0 := by have := sg_ne hy0 hy2; simpa using this) | skip
    clear Hz h1 h2
    go_enter Tryd.func81, Tryd.ntmps81
    go_wp2_with (first | (go_at_call 88; go_in) | (go_at_call 93; refine (compareI_any _ _ _ _).mono ?_; rintro e w' ⟨rfl, rfl⟩) | (go_at_call 82; refine (binU_any _ _ _ _ _ (by assumption) (by assumption) (by assumption) (by assumption) (by decide) (by decide) (by intro h; simp at h)).mono ?_; rintro e w' ⟨rfl, rfl⟩))
    first
      | (go_ret; refine ⟨ret_u64 ?_, rfl⟩; first | exact (Wd.bsu _ _ _ _ (by decide) (by decide) (by decide) (by decide)).symm | (rw [Wd.bsc _ _ _ _ (by decide)]; simp only [sg_wrap]) | (rw [Wd.bs10, IntKind.wrap_u64, sg_wrap]))
      | (refine (canon_any _ _ _ (wrap_rng _).1 (wrap_rng _).2).mono ?_
         rintro e w' ⟨rfl, rfl⟩
         go_wp2
         go_ret
         refine ⟨ret_u64 ?_, rfl⟩
         simp only [Wd.bs4, Wd.bs5, Wd.canon_wrap, canon_sg, sg_wrap])

end Go.Proofs.YtbghjlamedlchaaDoor

/- Bin of kinds that are no floats: its contract. -/
namespace Go.Proofs.YtbghjlamedlchaaDoor
open Go.RowKit
set_option linter.unusedVariables false

theorem ret_bin {a b c d : Int} (h : (c, d) = (a, b)) : Ending.returned (.tuple #[.int .u64 a, .int .i64 b]) = .returned (.tuple #[.int .u64 c, .int .i64 d]) := by cases h; rfl

theorem opcases (op : Int) : op = 9 ∨ op = 10 ∨ op = 4 ∨ op = 5 ∨ ((op == 9) = false ∧ (op == 10) = false ∧ (op == 4) = false ∧ (op == 5) = false) := by
  simp only [beq_eq_false_iff_ne]; omega

set_option maxHeartbeats 1000000 in
theorem binI_kind (op k x y : Int) (w : World) (hh : Wd.hasBinB op k = false) :
    Calls Tryd.prog 69 #[.int .i64 op, .int .i64 k, .int .u64 x, .int .u64 y] w fun e w' => e = .returned (.tuple #[.int .u64 0, .int .i64 10]) ∧ w' = w := by
  go_enter Tryd.func69, Tryd.ntmps69
  go_wp2_with (go_at_call 77; refine (hasBin_any _ _ _).mono ?_; rintro e w' ⟨rfl, rfl⟩)
  go_ret2
  exact ⟨rfl, rfl⟩

set_option maxHeartbeats 2000000 in
theorem binI_form (op k x y : Int) (w : World) (hx : 0 ≤ x) (hx2 : x < 18446744073709551616) (hy : 0 ≤ y) (hy2 : y < 18446744073709551616)
    (hh : Wd.hasBinB op k = true) (hf : Wd.isB k x = false ∨ Wd.isB (if Wd.shB op then 9 else k) y = false) :
    Calls Tryd.prog 69 #[.int .i64 op, .int .i64 k, .int .u64 x, .int .u64 y] w fun e w' => e = .returned (.tuple #[.int .u64 0, .int .i64 11]) ∧ w' = w := by
  cases hix : Wd.isB k x
  · clear hf
    rcases opcases op with h | h | h | h | ⟨h9, h10, h4, h5⟩
    all_goals
      first | subst h | skip
      go_enter Tryd.func69, Tryd.ntmps69
      go_wp2_with (first | (go_at_call 77; refine (hasBin_any _ _ _).mono ?_; rintro e w' ⟨rfl, rfl⟩) | (go_at_call 78; refine (is_any _ _ _ (by assumption) (by assumption)).mono ?_; rintro e w' ⟨rfl, rfl⟩))
      go_ret2
      exact ⟨rfl, rfl⟩
  · have Hf : Hid (Wd.isB (if Wd.shB op then 9 else k) y = false) := by rcases hf with h | h; { rw [hix] at h; cases h }; exact h
    clear hf
    rcases opcases op with h | h | h | h | ⟨h9, h10, h4, h5⟩
    all_goals
      first | subst h | skip
      first
        | have hf : Wd.isB 9 y = false := Hf.out
        | have hf : Wd.isB k y = false := Hf.out
        | have hf : Wd.isB k y = false := by have := Hf.out; unfold Wd.shB at this; rw [h9, h10] at this; exact this
      clear Hf
      go_enter Tryd.func69, Tryd.ntmps69
      go_wp2_with (first | (go_at_call 77; refine (hasBin_any _ _ _).mono ?_; rintro e w' ⟨rfl, rfl⟩) | (go_at_call 78; refine (is_any _ _ _ (by assumption) (by assumption)).mono ?_; rintro e w' ⟨rfl, rfl⟩))
      go_ret2
      exact ⟨rfl, rfl⟩

set_option maxHeartbeats 2000000 in
theorem binI_zero (op k x : Int) (w : World) (hx : 0 ≤ x) (hx2 : x < 18446744073709551616) (ho : op = 4 ∨ op = 5) (hk : (k == 10) = false)
    (hh : Wd.hasBinB op k = true) (hix : Wd.isB k x = true) (hiy : Wd.isB k 0 = true) :
    Calls Tryd.prog 69 #[.int .i64 op, .int .i64 k, .int .u64 x, .int .u64 0] w fun e w' => e = .returned (.tuple #[.int .u64 0, .int .i64 12]) ∧ w' = w := by
  rcases ho with h | h
  all_goals
    subst h
    go_enter Tryd.func69, Tryd.ntmps69
    go_wp2_with (first | (go_at_call 77; refine (hasBin_any _ _ _).mono ?_; rintro e w' ⟨rfl, rfl⟩) | (go_at_call 78; refine (is_any _ _ _ (by first | assumption | decide) (by first | assumption | decide)).mono ?_; rintro e w' ⟨rfl, rfl⟩))
    go_ret2
    exact ⟨rfl, rfl⟩

set_option maxHeartbeats 2000000 in
theorem binI_ok (op k x y : Int) (w : World) (hx : 0 ≤ x) (hx2 : x < 18446744073709551616) (hy : 0 ≤ y) (hy2 : y < 18446744073709551616) (hk : (k == 10) = false)
    (hh : Wd.hasBinB op k = true) (hix : Wd.isB k x = true) (hf : Wd.isB (if Wd.shB op then 9 else k) y = true) (hz : op = 4 ∨ op = 5 → 0 < y) :
    Calls Tryd.prog 69 #[.int .i64 op, .int .i64 k, .int .u64 x, .int .u64 y] w fun e w' => e = .returned (.tuple #[.int .u64 (if Wd.sgnB k then Wd.bs op k x y else Wd.bu op k x y), .int .i64 0]) ∧ w' = w := by
  have Hz : Hid (op = 4 ∨ op = 5 → 0 < y) := hz
  obtain ⟨ho1, ho2⟩ := Wd.hasBin_ops hh
  have hfc : (op = 9 ∨ op = 10) ∧ Wd.isB 9 y = true ∨ ((op == 9) = false ∧ (op == 10) = false) ∧ Wd.isB k y = true := by
    by_cases h : op = 9 ∨ op = 10
    · left; refine ⟨h, ?_⟩; have e : Wd.shB op = true := by rcases h with rfl | rfl <;> rfl
      rw [e] at hf; exact hf
    · right; have e : (op == 9) = false ∧ (op == 10) = false := by simp only [beq_eq_false_iff_ne]; omega
      refine ⟨e, ?_⟩; unfold Wd.shB at hf; rw [e.1, e.2] at hf; exact hf
  clear hf
  have hyc : y = 0 ∧ (op == 4) = false ∧ (op == 5) = false ∨ (y == 0) = false := by
    by_cases h : y = 0
    · left; refine ⟨h, ?_⟩; simp only [beq_eq_false_iff_ne]; constructor <;> (intro e; have := hz (by omega); omega)
    · right; simpa using h
  clear hz
  cases hs : Wd.sgnB k
  all_goals
    rcases hyc with ⟨rfl, h4, h5⟩ | hyc
    all_goals
      rcases hfc with ⟨rfl | rfl, hf⟩ | ⟨⟨h9, h10⟩, hf⟩
      all_goals
        go_enter Tryd.func69, Tryd.ntmps69
        go_wp2_with (first | (go_at_call 77; refine (hasBin_any _ _ _).mono ?_; rintro e w' ⟨rfl, rfl⟩) | (go_at_call 78; refine (is_any _ _ _ (by first | assumption | decide) (by first | assumption | decide)).mono ?_; rintro e w' ⟨rfl, rfl⟩) | (go_at_call 80; refine (signed_any _ _).mono ?_; rintro e w' ⟨rfl, rfl⟩) | (go_at_call 81; refine (binS_any _ _ _ _ _ (by assumption) (by assumption) (by first | assumption | decide) (by first | assumption | decide) (by first | assumption | decide) (by first | assumption | decide) Hz.out).mono ?_; rintro e w' ⟨rfl, rfl⟩) | (go_at_call 82; refine (binU_any _ _ _ _ _ (by assumption) (by assumption) (by first | assumption | decide) (by first | assumption | decide) (by first | assumption | decide) (by first | assumption | decide) Hz.out).mono ?_; rintro e w' ⟨rfl, rfl⟩))
        all_goals
          go_ret2
          exact ⟨ret_bin rfl, rfl⟩

theorem binI_any (op k x y : Int) (w : World) (hx : 0 ≤ x) (hx2 : x < 18446744073709551616) (hy : 0 ≤ y) (hy2 : y < 18446744073709551616) (hk : k ≠ 10) :
    Calls Tryd.prog 69 #[.int .i64 op, .int .i64 k, .int .u64 x, .int .u64 y] w fun e w' => e = .returned (.tuple #[.int .u64 (Wd.binI op k x y).1, .int .i64 (Wd.binI op k x y).2]) ∧ w' = w := by
  have hk' : (k == 10) = false := by simpa using hk
  unfold Wd.binI
  cases hh : Wd.hasBinB op k
  · rw [if_pos rfl]; exact binI_kind op k x y w hh
  · rw [if_neg (by simp)]
    by_cases hf : Wd.isB k x = false ∨ Wd.isB (if Wd.shB op then 9 else k) y = false
    · rw [if_pos hf]; exact binI_form op k x y w hx hx2 hy hy2 hh hf
    · rw [if_neg hf]
      have hix : Wd.isB k x = true := by cases h : Wd.isB k x; { exact absurd (.inl h) hf }; rfl
      have hiy : Wd.isB (if Wd.shB op then 9 else k) y = true := by cases h : Wd.isB (if Wd.shB op then 9 else k) y; { exact absurd (.inr h) hf }; rfl
      by_cases hz : y = 0 ∧ (op = 4 ∨ op = 5)
      · rw [if_pos hz]
        obtain ⟨rfl, ho⟩ := hz
        have hs : Wd.shB op = false := by rcases ho with rfl | rfl <;> rfl
        rw [hs] at hiy
        exact binI_zero op k x w hx hx2 ho hk' hh hix hiy
      · rw [if_neg hz]
        refine (binI_ok op k x y w hx hx2 hy hy2 hk' hh hix hiy (by intro h; have : y ≠ 0 := fun e => hz ⟨e, h⟩; omega)).mono ?_
        rintro e w' ⟨rfl, rfl⟩
        refine ⟨?_, rfl⟩
        split <;> rfl

end Go.Proofs.YtbghjlamedlchaaDoor

/- bin and wakes (of the laws), at kinds that are no floats: contracts. -/
namespace Go.Proofs.YtbghjlamedlchaaDoor
open Go.RowKit
set_option linter.unusedVariables false

namespace Wd
/-- the word alone -/
def bv (op k x y : Int) : Int := (binI op k x y).1
end Wd

theorem binI_wakes : Wd.binI 1 6 200 100 = (44, 0) := by decide +kernel
theorem wid3 : Wd.wid 3 = 16 := by decide +kernel

end Go.Proofs.YtbghjlamedlchaaDoor

/- Un: its contract. -/
namespace Go.Proofs.YtbghjlamedlchaaDoor
open Go.RowKit
set_option linter.unusedVariables false

namespace Wd
def flip (x : Int) : Int := if x < 9223372036854775808 then x + 9223372036854775808 else x - 9223372036854775808
def unI (op k x : Int) : Int × Int :=
  if hasUnB op k = false then (0, 10) else if isB k x = false then (0, 11)
  else if op = 2 then (1 - x, 0) else if op = 3 then (canon k (18446744073709551615 - x), 0) else if k = 10 then (flip x, 0) else (canon k (-x), 0)
end Wd

theorem xor_top {a : Nat} (h : a < 9223372036854775808) : a ^^^ 9223372036854775808 = 9223372036854775808 + a := by
  have e : (9223372036854775808 : Nat) = 2 ^ 63 := by decide
  rw [e] at *
  refine Nat.eq_of_testBit_eq fun i => ?_
  rw [Nat.testBit_xor, Nat.testBit_two_pow]
  rcases Nat.lt_trichotomy i 63 with hi | hi | hi
  · rw [Nat.testBit_two_pow_add_gt hi, decide_eq_false (by omega), Bool.xor_false]
  · subst hi; rw [Nat.testBit_two_pow_add_eq, decide_eq_true rfl, Bool.xor_true]
  · have p : 2 ^ 64 ≤ 2 ^ i := Nat.pow_le_pow_right (by omega) hi
    have q : 2 ^ 64 = 2 ^ 63 + 2 ^ 63 := by decide
    rw [Nat.testBit_lt_two_pow (x := a) (by omega), Nat.testBit_lt_two_pow (x := 2 ^ 63 + a) (by omega), decide_eq_false (by omega), Bool.xor_false]
theorem xor_ones {a : Nat} (h : a < 18446744073709551616) : 18446744073709551615 ^^^ a = 18446744073709551615 - a := by
  have e1 : (18446744073709551615 : Nat) = 2 ^ 64 - 1 := by decide
  have e2 : (18446744073709551615 - a : Nat) = 2 ^ 64 - (a + 1) := by omega
  have h' : a < 2 ^ 64 := h
  rw [e2, e1]
  refine Nat.eq_of_testBit_eq fun i => ?_
  rw [Nat.testBit_xor, Nat.testBit_two_pow_sub_one, Nat.testBit_two_pow_sub_succ h']
  by_cases hi : i < 64
  · simp [hi]
  · have p : 2 ^ 64 ≤ 2 ^ i := Nat.pow_le_pow_right (by omega) (by omega)
    rw [Nat.testBit_lt_two_pow (x := a) (by omega)]; simp [hi]

theorem bits_flip {x : Int} (h1 : 0 ≤ x) (h2 : x < 18446744073709551616) : bits .xor .u64 x 9223372036854775808 = Wd.flip x := by
  rw [Go.u64_xor _ _ h1 h2 (by decide) (by decide), show (9223372036854775808 : Int).toNat = 9223372036854775808 from rfl]
  unfold Wd.flip
  split
  · rw [xor_top (by omega)]; omega
  · have e : x.toNat = (x - 9223372036854775808).toNat ^^^ 9223372036854775808 := by rw [xor_top (by omega)]; omega
    rw [e, Nat.xor_assoc, Nat.xor_self, Nat.xor_zero]; omega
theorem bits_com {x : Int} (h1 : 0 ≤ x) (h2 : x < 18446744073709551616) : bits .xor .u64 IntKind.u64.max x = 18446744073709551615 - x := by
  rw [show IntKind.u64.max = 18446744073709551615 from by decide, Go.u64_xor _ _ (by decide) (by decide) h1 h2, show (18446744073709551615 : Int).toNat = 18446744073709551615 from rfl, xor_ones (by omega)]; omega
theorem bits_not {x : Int} (h1 : 0 ≤ x) (h2 : x ≤ 1) : bits .xor .u64 x 1 = 1 - x := by
  rw [Go.u64_xor _ _ h1 (by omega) (by decide) (by decide)]
  have : x = 0 ∨ x = 1 := by omega
  rcases this with rfl | rfl <;> decide

theorem unI_ok {op k x : Int} (hh : Wd.hasUnB op k = true) (hi : Wd.isB k x = true) :
    Wd.unI op k x = if op = 2 then (1 - x, 0) else if op = 3 then (Wd.canon k (18446744073709551615 - x), 0) else if k = 10 then (Wd.flip x, 0) else (Wd.canon k (-x), 0) := by
  unfold Wd.unI; rw [if_neg (by simp [hh]), if_neg (by simp [hi])]

set_option maxHeartbeats 1000000 in
theorem un_ok (op k x : Int) (w : World) (hx : 0 ≤ x) (hx2 : x < 18446744073709551616) (hh : Wd.hasUnB op k = true) (hi : Wd.isB k x = true) :
    Calls Tryd.prog 72 #[.int .i64 op, .int .i64 k, .int .u64 x] w fun e w' => e = .returned (.tuple #[.int .u64 (Wd.unI op k x).1, .int .i64 (Wd.unI op k x).2]) ∧ w' = w := by
  have Hu : Hid (_ = _) := unI_ok hh hi
  have Hn : Hid (op = 2 → x ≤ 1) := by
    show op = 2 → x ≤ 1
    rintro rfl
    have hk : k = 1 := by simpa [Wd.hasUnB] using hh
    subst hk
    simp only [Wd.isB, Wd.canon1, Bool.and_eq_true, beq_iff_eq] at hi
    omega
  go_enter Tryd.func72, Tryd.ntmps72
  go_wp2_with (first | (go_at_call 83; refine (hasUn_any _ _ _).mono ?_; rintro e w' ⟨rfl, rfl⟩) | (go_at_call 78; refine (is_any _ _ _ (by first | assumption | decide) (by first | assumption | decide)).mono ?_; rintro e w' ⟨rfl, rfl⟩) | (go_at_call 84; go_in) | (go_at_call 71; refine (canon_any _ _ _ (by first | exact (wrap_rng _).1 | (rw [bits_com (by assumption) (by assumption)]; omega)) (by first | exact (wrap_rng _).2 | (rw [bits_com (by assumption) (by assumption)]; omega))).mono ?_; rintro e w' ⟨rfl, rfl⟩))
  all_goals
    go_ret2
    refine ⟨ret_bin ?_, rfl⟩
    show Wd.unI op k x = _
    rw [Hu.out]
  · rw [if_pos (by simpa using ‹(op == 2) = true›), bits_not hx (Hn.out (by simpa using ‹(op == 2) = true›))]
  · rw [if_neg (by simpa using ‹(op == 2) = false›), if_pos (by simpa using ‹(op == 3) = true›), bits_com hx hx2]
  · rw [if_neg (by simpa using ‹(op == 2) = false›), if_neg (by simpa using ‹(op == 3) = false›), if_pos (by simpa using ‹(k == 10) = true›), bits_flip hx hx2]
  · rw [if_neg (by simpa using ‹(op == 2) = false›), if_neg (by simpa using ‹(op == 3) = false›), if_neg (by simpa using ‹(k == 10) = false›), Wd.canon_wrap]

set_option maxHeartbeats 400000 in
theorem un_kind (op k x : Int) (w : World) (hh : Wd.hasUnB op k = false) :
    Calls Tryd.prog 72 #[.int .i64 op, .int .i64 k, .int .u64 x] w fun e w' => e = .returned (.tuple #[.int .u64 0, .int .i64 10]) ∧ w' = w := by
  go_enter Tryd.func72, Tryd.ntmps72
  go_wp2_with (go_at_call 83; refine (hasUn_any _ _ _).mono ?_; rintro e w' ⟨rfl, rfl⟩)
  go_ret2
  exact ⟨rfl, rfl⟩

set_option maxHeartbeats 400000 in
theorem un_form (op k x : Int) (w : World) (hx : 0 ≤ x) (hx2 : x < 18446744073709551616) (hh : Wd.hasUnB op k = true) (hi : Wd.isB k x = false) :
    Calls Tryd.prog 72 #[.int .i64 op, .int .i64 k, .int .u64 x] w fun e w' => e = .returned (.tuple #[.int .u64 0, .int .i64 11]) ∧ w' = w := by
  go_enter Tryd.func72, Tryd.ntmps72
  go_wp2_with (first | (go_at_call 83; refine (hasUn_any _ _ _).mono ?_; rintro e w' ⟨rfl, rfl⟩) | (go_at_call 78; refine (is_any _ _ _ (by assumption) (by assumption)).mono ?_; rintro e w' ⟨rfl, rfl⟩))
  go_ret2
  exact ⟨rfl, rfl⟩

theorem un_any (op k x : Int) (w : World) (hx : 0 ≤ x) (hx2 : x < 18446744073709551616) :
    Calls Tryd.prog 72 #[.int .i64 op, .int .i64 k, .int .u64 x] w fun e w' => e = .returned (.tuple #[.int .u64 (Wd.unI op k x).1, .int .i64 (Wd.unI op k x).2]) ∧ w' = w := by
  cases hh : Wd.hasUnB op k
  · have e : Wd.unI op k x = (0, 10) := by unfold Wd.unI; rw [if_pos hh]
    rw [e]; exact un_kind op k x w hh
  · cases hi : Wd.isB k x
    · have e : Wd.unI op k x = (0, 11) := by unfold Wd.unI; rw [if_neg (by simp [hh]), if_pos hi]
      rw [e]; exact un_form op k x w hx hx2 hh hi
    · exact un_ok op k x w hx hx2 hh hi

end Go.Proofs.YtbghjlamedlchaaDoor

/- Floats as their bits: plain functions, and what they keep to. No Go here. -/
namespace Go.Proofs.YtbghjlamedlchaaDoor
open Ieee
namespace Fl
set_option linter.unusedVariables false

/-- what a word of 64 bits stands for -/
def rd (x : Int) : Datum := double.read x.toNat
def theNaN : Int := 9221120237041090560
/-- the order of two floats -/
def ordN (a b : Nat) : Option Ordering := double.order a b
def cmpN (op : Int) (a b : Nat) : Int :=
  if op = 11 then Wd.tr (ordN a b == some .eq) else if op = 12 then Wd.tr (ordN a b != some .eq) else if op = 13 then Wd.tr (ordN a b == some .lt)
  else if op = 14 then Wd.tr (ordN a b == some .lt || ordN a b == some .eq) else if op = 15 then Wd.tr (ordN a b == some .gt) else if op = 16 then Wd.tr (ordN a b == some .gt || ordN a b == some .eq) else 0
def cmpF (op x y : Int) : Int := cmpN op x.toNat y.toNat
def raw (op x y : Int) : Option Nat :=
  if op = 1 then double.add x.toNat y.toNat else if op = 2 then double.sub x.toNat y.toNat else if op = 3 then double.mul x.toNat y.toNat else double.div x.toNat y.toNat
def ar (op x y : Int) : Int := match raw op x y with | some r => r | none => theNaN
def bf (op x y : Int) : Int := if Wd.cmpB op then cmpF op x y else ar op x y

theorem sum_comm (a b : Datum) : a.sum b = b.sum a := by
  cases a <;> cases b <;> simp only [Datum.sum]
  · rename_i s m i t n j
    rw [Int.min_comm i j, Int.add_comm (signed s m _), Bool.and_comm s t]
  · rename_i s t
    by_cases h : s = t
    · subst h; rfl
    · rw [if_neg h, if_neg (fun e => h e.symm)]
theorem product_comm (a b : Datum) : a.product b = b.product a := by
  cases a <;> cases b <;> simp only [Datum.product]
  · rename_i s m i t n j
    rw [Bool.xor_comm, Nat.mul_comm, Int.add_comm]
  · rename_i s t; rw [Bool.xor_comm]


theorem sw : double.signWeight = 9223372036854775808 := by decide +kernel
theorem bn : double.binade = 4503599627370496 := by decide +kernel
theorem ir : double.infRung = 9218868437227405312 := by decide +kernel
theorem lp : double.leastPlace = -1074 := by decide +kernel
theorem fb52 : double.fractionBits = 52 := rfl

def rdOf (neg : Bool) (rung : Nat) : Datum :=
  if rung < 4503599627370496 then .number neg rung (-1074)
  else if rung < 9218868437227405312 then .number neg (4503599627370496 + rung % 4503599627370496) (-1074 + (rung / 4503599627370496 - 1 : Nat))
  else if rung = 9218868437227405312 then .infinity neg
  else .nan neg (rung - 9218868437227405312)
theorem read_is (n : Nat) : double.read n = rdOf (n / 9223372036854775808 % 2 == 1) (n % 9223372036854775808) := by
  unfold Format.read rdOf
  simp only [sw, bn, ir, lp]
theorem read_word (neg : Bool) {rung : Nat} (h : rung < 9223372036854775808) : double.read (double.word neg rung) = rdOf neg rung := by
  rw [read_is]
  unfold Format.word
  rw [sw]
  cases neg
  · rw [if_neg (by simp), show rung / 9223372036854775808 % 2 = 0 by omega, show rung % 9223372036854775808 = rung by omega]; rfl
  · rw [if_pos rfl, show (9223372036854775808 + rung) / 9223372036854775808 % 2 = 1 by omega, show (9223372036854775808 + rung) % 9223372036854775808 = rung by omega]; rfl

/-- a word of a finite number or an infinity is no NaN's -/
theorem nearest_word (neg : Bool) (mag : Nat) (place : Int) : ∃ rung, rung ≤ 9218868437227405312 ∧ double.nearest neg mag place = double.word neg rung := by
  unfold Format.nearest
  split
  · exact ⟨0, by omega, rfl⟩
  · dsimp only
    refine ⟨_, ?_, rfl⟩
    rw [ir]; exact Nat.min_le_right _ _
theorem write_num (neg : Bool) (mag : Nat) (place : Int) : (double.read (double.write (.number neg mag place))).isNaN = false := by
  obtain ⟨r, h, e⟩ := nearest_word neg mag place
  show (double.read (double.nearest neg mag place)).isNaN = false
  rw [e, read_word neg (by omega)]
  unfold rdOf
  repeat' split
  all_goals first | rfl | omega
theorem write_inf (neg : Bool) : (double.read (double.write (.infinity neg))).isNaN = false := by
  show (double.read (double.word neg double.infRung)).isNaN = false
  rw [ir, read_word neg (by omega)]
  unfold rdOf
  repeat' split
  all_goals first | rfl | omega

theorem cmp_self (a : Int) : compare a a = Ordering.eq := by simp [compare, compareOfLessAndEq]
theorem cmp_selfN (a : Nat) : compare a a = Ordering.eq := by simp [compare, compareOfLessAndEq]
theorem order_self {d : Datum} (h : d.isNaN = false) : d.order d = some .eq := by
  cases d with
  | number s m i => simp only [Datum.order]; rw [cmp_self]
  | infinity s => simp only [Datum.order]; rw [cmp_selfN]
  | nan s t => cases h
theorem order_nan {d e : Datum} (h : d.isNaN = true) : d.order e = none := by
  cases d with
  | nan s t => cases e <;> rfl
  | number s m i => cases h
  | infinity s => cases h

theorem cmp_swap (a b : Int) : compare a b = (compare b a).swap := by
  simp only [compare, compareOfLessAndEq]
  by_cases h : a < b
  · have g : ¬ b < a := by omega
    have k : ¬ b = a := by omega
    simp [h, g, k]
  · by_cases e : a = b
    · subst e; simp
    · have g : b < a := by omega
      simp [h, e, g]
theorem cmp_swapN (a b : Nat) : compare a b = (compare b a).swap := by
  simp only [compare, compareOfLessAndEq]
  by_cases h : a < b
  · have g : ¬ b < a := by omega
    have k : ¬ b = a := by omega
    simp [h, g, k]
  · by_cases e : a = b
    · subst e; simp
    · have g : b < a := by omega
      simp [h, e, g]
theorem order_swap (d e : Datum) : d.order e = (e.order d).map Ordering.swap := by
  cases d <;> cases e <;> simp only [Datum.order, Option.map_some, Option.map_none]
  · rename_i s m i t n j
    rw [Int.min_comm i j, cmp_swap]
  · rename_i s m i t; cases t <;> rfl
  · rename_i s t n j; cases s <;> rfl
  · rename_i s t; rw [cmp_swapN]

theorem raw_ok {op x y : Int} {r : Nat} (h : raw op x y = some r) : (double.read r).isNaN = false := by
  have key : ∀ d : Option Datum, (∀ e, d = some e → e.isNaN = false) → d.map double.write = some r → (double.read r).isNaN = false := by
    intro d hd hr
    cases d with
    | none => cases hr
    | some e =>
      have h1 := hd e rfl
      have : double.write e = r := by simpa using hr
      subst this
      cases e with
      | number s m i => exact write_num s m i
      | infinity s => exact write_inf s
      | nan s t => cases h1
  have hs : ∀ a b e, Datum.sum a b = some e → e.isNaN = false := by
    intro a b e he
    cases a <;> cases b <;> simp only [Datum.sum] at he
    all_goals first | (cases he; done) | skip
    all_goals first | (cases he; rfl) | (split at he; · cases he; rfl
                                         · cases he)
  have hp : ∀ a b e, Datum.product a b = some e → e.isNaN = false := by
    intro a b e he
    cases a <;> cases b <;> simp only [Datum.product] at he
    all_goals first | (cases he; done) | skip
    all_goals first | (cases he; rfl) | (split at he; · cases he
                                         · cases he; rfl)
  have hq : ∀ n a b e, Datum.quotient n a b = some e → e.isNaN = false := by
    intro n a b e he
    cases a <;> cases b <;> simp only [Datum.quotient] at he
    all_goals first | (cases he; done) | skip
    all_goals first | (cases he; rfl) | (split at he; · split at he
                                                        · cases he
                                                        · cases he; rfl
                                         · cases he; rfl)
  unfold raw at h
  split at h
  · exact key _ (hs _ _) h
  · split at h
    · exact key _ (hs _ _) h
    · split at h
      · exact key _ (hp _ _) h
      · exact key _ (hq _ _ _) h

end Fl
end Go.Proofs.YtbghjlamedlchaaDoor

/- The float functions of package word: contracts. -/
namespace Go.Proofs.YtbghjlamedlchaaDoor
open Go.RowKit
set_option linter.unusedVariables false

theorem frombits (x : Int) (w : World) : (callFunc 90 #[.int .u64 x]).run Tryd.prog w = .ok (.value (.float .f64 x.toNat)) w := by kernel_rfl
theorem tobits (b : Nat) (w : World) : (callFunc 95 #[.float .f64 b]).run Tryd.prog w = .ok (.value (.int .u64 b)) w := by kernel_rfl

theorem ord_nat (a b : Nat) : Fl.ordN a b = FloatKind.f64.format.order a b := rfl

set_option maxHeartbeats 400000 in
theorem compareF_any (op : Int) (a b : Nat) (w : World) :
    Calls Tryd.prog 91 #[.int .i64 op, .float .f64 a, .float .f64 b] w fun e w' => e = .returned (.int .u64 (Fl.cmpN op a b)) ∧ w' = w := by
  go_enter Tryd.func91, Tryd.ntmps91
  go_wp2
  all_goals
    go_ret
    refine ⟨ret_u64 ?_, rfl⟩
    unfold Fl.cmpN Wd.tr
    rw [ord_nat]
    generalize FloatKind.f64.format.order a b = o at *
    simp_all

/-- a float that is one: a test against itself -/
theorem self_eq {b : Nat} (h : (Ieee.double.read b).isNaN = false) : (FloatKind.f64.format.order b b != some Ordering.eq) = false := by
  show (Ieee.Datum.order (Ieee.double.read b) (Ieee.double.read b) != some Ordering.eq) = false
  rw [Fl.order_self h]; rfl
theorem self_ne {b : Nat} (h : (Ieee.double.read b).isNaN = true) : (FloatKind.f64.format.order b b != some Ordering.eq) = true := by
  show (Ieee.Datum.order (Ieee.double.read b) (Ieee.double.read b) != some Ordering.eq) = true
  rw [Fl.order_nan h]; rfl

set_option maxHeartbeats 400000 in
theorem oneNaN_no (b : Nat) (w : World) (h : (Ieee.double.read b).isNaN = false) :
    Calls Tryd.prog 92 #[.float .f64 b] w fun e w' => e = .returned (.int .u64 b) ∧ w' = w := by
  have hb := tobits b
  have hs := self_eq h
  clear h
  go_enter Tryd.func92, Tryd.ntmps92
  go_wp2
  go_ret
  exact ⟨rfl, rfl⟩
set_option maxHeartbeats 400000 in
theorem oneNaN_yes (b : Nat) (w : World) (h : (Ieee.double.read b).isNaN = true) :
    Calls Tryd.prog 92 #[.float .f64 b] w fun e w' => e = .returned (.int .u64 Fl.theNaN) ∧ w' = w := by
  have hs := self_ne h
  clear h
  go_enter Tryd.func92, Tryd.ntmps92
  go_wp2
  go_ret
  exact ⟨rfl, rfl⟩

/-- the NaN that the machine makes -/
def anyNaN (w : World) (x y : Nat) : Nat := Question.cut (.nanBits .f64 x y) (w.tape w.drawn (.nanBits .f64 x y))
theorem anyNaN_is (w : World) (x y : Nat) : (Ieee.double.read (anyNaN w x y)).isNaN = true := by
  unfold anyNaN
  generalize w.tape w.drawn (.nanBits .f64 x y) = t
  show (Ieee.double.read ((t % 2) * 2 ^ 63 + 0x7ff0000000000000 + 1 + (t / 2) % (2 ^ 52 - 1))).isNaN = true
  rw [Fl.read_is]
  have h1 : ((t % 2) * 2 ^ 63 + 0x7ff0000000000000 + 1 + (t / 2) % (2 ^ 52 - 1)) % 9223372036854775808 = 0x7ff0000000000000 + 1 + (t / 2) % (2 ^ 52 - 1) := by omega
  rw [h1]
  unfold Fl.rdOf
  rw [if_neg (by omega), if_neg (by omega), if_neg (by omega)]; rfl

theorem run_nan (op : BinOp) (t : TypeId) (x y : Nat) (h : floatBits op .f64 x y = none) (ho : op = .add ∨ op = .sub ∨ op = .mul ∨ op = .quo) (w : World) :
    (binOp op t (.float .f64 x) (.float .f64 y)).run Tryd.prog w = .ok (.float .f64 (anyNaN w x y)) w.drew := by
  unfold floatBits at h
  rcases ho with rfl | rfl | rfl | rfl <;> simp only at h <;> simp [binOp, Op.floatArith, h, anyNaN, Question.forced]

set_option maxHeartbeats 400000 in
theorem binF_add (x y : Int) (w : World) :
    Calls Tryd.prog 79 #[.int .i64 1, .int .u64 x, .int .u64 y] w fun e w' => e = .returned (.int .u64 (Fl.ar 1 x y)) ∧ ∃ n, w' = w.drewN n := by
  have f1 := frombits
  cases hr : floatBits .add .f64 x.toNat y.toNat with
  | some r =>
    have Ha : Hid (Fl.ar 1 x y = r) := by show (match floatBits .add .f64 x.toNat y.toNat with | some r => (r : Int) | none => Fl.theNaN) = (r : Int); rw [hr]
    have Hn : Hid ((Ieee.double.read r).isNaN = false) := Fl.raw_ok (op := 1) (x := x) (y := y) hr
    have hrun := fun (w : World) (t : TypeId) => run_float_arith (P := Tryd.prog) w .add t .f64 x.toNat y.toNat r hr
    clear hr
    go_enter Tryd.func79, Tryd.ntmps79
    go_wp2_with (first | (go_at_call 88; go_in) | (go_at_call 92; refine (oneNaN_no _ _ Hn.out).mono ?_; rintro e w' ⟨rfl, rfl⟩))
    go_ret
    exact ⟨ret_u64 Ha.out.symm, 0, rfl⟩
  | none =>
    have Ha : Hid (Fl.ar 1 x y = Fl.theNaN) := by show (match floatBits .add .f64 x.toNat y.toNat with | some r => (r : Int) | none => Fl.theNaN) = _; rw [hr]
    have hrun := fun (w : World) (t : TypeId) => run_nan .add t x.toNat y.toNat hr (by simp) w
    clear hr
    go_enter Tryd.func79, Tryd.ntmps79
    go_wp2_with (first | (go_at_call 88; go_in) | (go_at_call 92; refine (oneNaN_yes _ _ (anyNaN_is _ _ _)).mono ?_; rintro e w' ⟨rfl, rfl⟩))
    go_ret
    exact ⟨ret_u64 Ha.out.symm, 1, rfl⟩
set_option maxHeartbeats 400000 in
theorem binF_sub (x y : Int) (w : World) :
    Calls Tryd.prog 79 #[.int .i64 2, .int .u64 x, .int .u64 y] w fun e w' => e = .returned (.int .u64 (Fl.ar 2 x y)) ∧ ∃ n, w' = w.drewN n := by
  have f1 := frombits
  cases hr : floatBits .sub .f64 x.toNat y.toNat with
  | some r =>
    have Ha : Hid (Fl.ar 2 x y = r) := by show (match floatBits .sub .f64 x.toNat y.toNat with | some r => (r : Int) | none => Fl.theNaN) = (r : Int); rw [hr]
    have Hn : Hid ((Ieee.double.read r).isNaN = false) := Fl.raw_ok (op := 2) (x := x) (y := y) hr
    have hrun := fun (w : World) (t : TypeId) => run_float_arith (P := Tryd.prog) w .sub t .f64 x.toNat y.toNat r hr
    clear hr
    go_enter Tryd.func79, Tryd.ntmps79
    go_wp2_with (first | (go_at_call 88; go_in) | (go_at_call 92; refine (oneNaN_no _ _ Hn.out).mono ?_; rintro e w' ⟨rfl, rfl⟩))
    go_ret
    exact ⟨ret_u64 Ha.out.symm, 0, rfl⟩
  | none =>
    have Ha : Hid (Fl.ar 2 x y = Fl.theNaN) := by show (match floatBits .sub .f64 x.toNat y.toNat with | some r => (r : Int) | none => Fl.theNaN) = _; rw [hr]
    have hrun := fun (w : World) (t : TypeId) => run_nan .sub t x.toNat y.toNat hr (by simp) w
    clear hr
    go_enter Tryd.func79, Tryd.ntmps79
    go_wp2_with (first | (go_at_call 88; go_in) | (go_at_call 92; refine (oneNaN_yes _ _ (anyNaN_is _ _ _)).mono ?_; rintro e w' ⟨rfl, rfl⟩))
    go_ret
    exact ⟨ret_u64 Ha.out.symm, 1, rfl⟩
set_option maxHeartbeats 400000 in
theorem binF_mul (x y : Int) (w : World) :
    Calls Tryd.prog 79 #[.int .i64 3, .int .u64 x, .int .u64 y] w fun e w' => e = .returned (.int .u64 (Fl.ar 3 x y)) ∧ ∃ n, w' = w.drewN n := by
  have f1 := frombits
  cases hr : floatBits .mul .f64 x.toNat y.toNat with
  | some r =>
    have Ha : Hid (Fl.ar 3 x y = r) := by show (match floatBits .mul .f64 x.toNat y.toNat with | some r => (r : Int) | none => Fl.theNaN) = (r : Int); rw [hr]
    have Hn : Hid ((Ieee.double.read r).isNaN = false) := Fl.raw_ok (op := 3) (x := x) (y := y) hr
    have hrun := fun (w : World) (t : TypeId) => run_float_arith (P := Tryd.prog) w .mul t .f64 x.toNat y.toNat r hr
    clear hr
    go_enter Tryd.func79, Tryd.ntmps79
    go_wp2_with (first | (go_at_call 88; go_in) | (go_at_call 92; refine (oneNaN_no _ _ Hn.out).mono ?_; rintro e w' ⟨rfl, rfl⟩))
    go_ret
    exact ⟨ret_u64 Ha.out.symm, 0, rfl⟩
  | none =>
    have Ha : Hid (Fl.ar 3 x y = Fl.theNaN) := by show (match floatBits .mul .f64 x.toNat y.toNat with | some r => (r : Int) | none => Fl.theNaN) = _; rw [hr]
    have hrun := fun (w : World) (t : TypeId) => run_nan .mul t x.toNat y.toNat hr (by simp) w
    clear hr
    go_enter Tryd.func79, Tryd.ntmps79
    go_wp2_with (first | (go_at_call 88; go_in) | (go_at_call 92; refine (oneNaN_yes _ _ (anyNaN_is _ _ _)).mono ?_; rintro e w' ⟨rfl, rfl⟩))
    go_ret
    exact ⟨ret_u64 Ha.out.symm, 1, rfl⟩
set_option maxHeartbeats 400000 in
theorem binF_quo (x y : Int) (w : World) :
    Calls Tryd.prog 79 #[.int .i64 4, .int .u64 x, .int .u64 y] w fun e w' => e = .returned (.int .u64 (Fl.ar 4 x y)) ∧ ∃ n, w' = w.drewN n := by
  have f1 := frombits
  cases hr : floatBits .quo .f64 x.toNat y.toNat with
  | some r =>
    have Ha : Hid (Fl.ar 4 x y = r) := by show (match floatBits .quo .f64 x.toNat y.toNat with | some r => (r : Int) | none => Fl.theNaN) = (r : Int); rw [hr]
    have Hn : Hid ((Ieee.double.read r).isNaN = false) := Fl.raw_ok (op := 4) (x := x) (y := y) hr
    have hrun := fun (w : World) (t : TypeId) => run_float_arith (P := Tryd.prog) w .quo t .f64 x.toNat y.toNat r hr
    clear hr
    go_enter Tryd.func79, Tryd.ntmps79
    go_wp2_with (first | (go_at_call 88; go_in) | (go_at_call 92; refine (oneNaN_no _ _ Hn.out).mono ?_; rintro e w' ⟨rfl, rfl⟩))
    go_ret
    exact ⟨ret_u64 Ha.out.symm, 0, rfl⟩
  | none =>
    have Ha : Hid (Fl.ar 4 x y = Fl.theNaN) := by show (match floatBits .quo .f64 x.toNat y.toNat with | some r => (r : Int) | none => Fl.theNaN) = _; rw [hr]
    have hrun := fun (w : World) (t : TypeId) => run_nan .quo t x.toNat y.toNat hr (by simp) w
    clear hr
    go_enter Tryd.func79, Tryd.ntmps79
    go_wp2_with (first | (go_at_call 88; go_in) | (go_at_call 92; refine (oneNaN_yes _ _ (anyNaN_is _ _ _)).mono ?_; rintro e w' ⟨rfl, rfl⟩))
    go_ret
    exact ⟨ret_u64 Ha.out.symm, 1, rfl⟩

set_option maxHeartbeats 400000 in
theorem binF_cmp (op x y : Int) (w : World) (hc : Wd.cmpB op = true) :
    Calls Tryd.prog 79 #[.int .i64 op, .int .u64 x, .int .u64 y] w fun e w' => e = .returned (.int .u64 (Fl.cmpF op x y)) ∧ w' = w := by
  have f1 := frombits
  go_enter Tryd.func79, Tryd.ntmps79
  go_wp2_with (first | (go_at_call 88; refine (compares_any _ _).mono ?_; rintro e w' ⟨rfl, rfl⟩) | (go_at_call 91; refine (compareF_any _ _ _ _).mono ?_; rintro e w' ⟨rfl, rfl⟩))
  go_ret
  exact ⟨rfl, rfl⟩

theorem binF_any (op x y : Int) (w : World) (hop : Wd.hasBinB op 10 = true) :
    Calls Tryd.prog 79 #[.int .i64 op, .int .u64 x, .int .u64 y] w fun e w' => e = .returned (.int .u64 (Fl.bf op x y)) ∧ ∃ n, w' = w.drewN n := by
  unfold Fl.bf
  cases hc : Wd.cmpB op
  · have ho : op = 1 ∨ op = 2 ∨ op = 3 ∨ op = 4 := by
      simp [Wd.hasBinB, Wd.intB, hc] at hop; omega
    rw [if_neg (by simp)]
    rcases ho with rfl | rfl | rfl | rfl
    · exact binF_add x y w
    · exact binF_sub x y w
    · exact binF_mul x y w
    · exact binF_quo x y w
  · rw [if_pos rfl]
    refine (binF_cmp op x y w hc).mono ?_
    rintro e w' ⟨rfl, rfl⟩
    exact ⟨rfl, 0, rfl⟩

end Go.Proofs.YtbghjlamedlchaaDoor

/- Words modulo 2^width: plain arithmetic. -/
namespace Go.Proofs.YtbghjlamedlchaaDoor
namespace Wd

/-- 2^width -/
def pw (k : Int) : Int := if k = 1 then 2 else if k = 2 ∨ k = 6 then 256 else if k = 3 ∨ k = 7 then 65536 else if k = 4 ∨ k = 8 then 4294967296 else 18446744073709551616

theorem ints {k : Int} (h1 : 2 ≤ k) (h2 : k ≤ 9) : k = 2 ∨ k = 3 ∨ k = 4 ∨ k = 5 ∨ k = 6 ∨ k = 7 ∨ k = 8 ∨ k = 9 := by omega
theorem pw2 : pw 2 = 256 := rfl
theorem pw3 : pw 3 = 65536 := rfl
theorem pw4 : pw 4 = 4294967296 := rfl
theorem pw5 : pw 5 = 18446744073709551616 := rfl
theorem pw6 : pw 6 = 256 := rfl
theorem pw7 : pw 7 = 65536 := rfl
theorem pw8 : pw 8 = 4294967296 := rfl
theorem pw9 : pw 9 = 18446744073709551616 := rfl

theorem canon_add (k z s : Int) (h1 : 2 ≤ k) (h2 : k ≤ 9) : canon k (z + pw k * s) = canon k z := by
  rcases ints h1 h2 with h | h | h | h | h | h | h | h <;> (subst h; simp only [canon2, canon3, canon4, canon5, canon6, canon7, canon8, canon9, pw2, pw3, pw4, pw5, pw6, pw7, pw8, pw9]; omega)
theorem canon_is (k a : Int) (h1 : 2 ≤ k) (h2 : k ≤ 9) : ∃ t, canon k a = a + pw k * t := by
  refine ⟨(canon k a - a) / pw k, ?_⟩
  rcases ints h1 h2 with h | h | h | h | h | h | h | h <;> (subst h; simp only [canon2, canon3, canon4, canon5, canon6, canon7, canon8, canon9, pw2, pw3, pw4, pw5, pw6, pw7, pw8, pw9]; omega)
theorem canon_eq {k a b : Int} (h1 : 2 ≤ k) (h2 : k ≤ 9) (t : Int) (h : a = b + pw k * t) : canon k a = canon k b := by rw [h, canon_add k b t h1 h2]
theorem pw_dvd {k : Int} (h1 : 2 ≤ k) (h2 : k ≤ 9) : ∃ t, (18446744073709551616 : Int) = pw k * t := by
  refine ⟨18446744073709551616 / pw k, ?_⟩
  rcases ints h1 h2 with h | h | h | h | h | h | h | h <;> (subst h; simp only [pw2, pw3, pw4, pw5, pw6, pw7, pw8, pw9]; omega)
theorem canon_mul (k a c : Int) (h1 : 2 ≤ k) (h2 : k ≤ 9) : canon k (canon k a * c) = canon k (a * c) := by
  obtain ⟨t, ht⟩ := canon_is k a h1 h2
  exact canon_eq h1 h2 (t * c) (by rw [ht, Int.add_mul, Int.mul_assoc])
theorem canon_zero (k : Int) : canon k 0 = 0 := by
  rcases kinds k with h | h | h | h | h | h | h | h | h | h | h | h <;> first | (subst h; rfl) | exact canon_out k 0 h


theorem canon_over (k x : Int) (h1 : 2 ≤ k) (h2 : k ≤ 9) (c : Int) : canon k (x * 18446744073709551616 * c) = 0 := by
  obtain ⟨t, ht⟩ := pw_dvd h1 h2
  rw [canon_eq (b := 0) h1 h2 (x * t * c) (by rw [ht, Int.zero_add]; simp only [Int.mul_assoc, Int.mul_left_comm]), canon_zero]

theorem sgn_of {k : Int} (h1 : 2 ≤ k) (h2 : k ≤ 9) : sgnB k = true ∧ k ≤ 5 ∨ sgnB k = false ∧ 6 ≤ k := by
  by_cases h : k ≤ 5
  · left; exact ⟨by simp [sgnB]; omega, h⟩
  · right; exact ⟨by simp [sgnB]; omega, by omega⟩

theorem is_word {k x : Int} (h1 : 1 ≤ k) (h2 : k ≤ 11) (hw : canon k x = x) : isB k x = true := by simp [isB, h1, h2, hw]
theorem is_u64 {n : Int} (h1 : 0 ≤ n) (h2 : n < 18446744073709551616) : isB 9 n = true := is_word (by omega) (by omega) (by rw [canon9]; omega)

theorem bv_shift {op k x n : Int} (ho : op = 9 ∨ op = 10) (h1 : 2 ≤ k) (h2 : k ≤ 9) (hw : canon k x = x) (n1 : 0 ≤ n) (n2 : n < 18446744073709551616) :
    bv op k x n = if sgnB k then bs op k x n else bu op k x n := by
  have hh : hasBinB op k = true := by
    have : intB k = true := by simp [intB]; omega
    rcases ho with rfl | rfl <;> simp [hasBinB, this]
  have hs : shB op = true := by rcases ho with rfl | rfl <;> rfl
  have i1 : isB k x = true := is_word (by omega) (by omega) hw
  have i2 := is_u64 n1 n2
  unfold bv binI
  rw [if_neg (by rw [hh]; simp), hs, if_neg (by simp [i1, i2]), if_neg (by omega)]
  split <;> rfl

theorem bv_shl {k x n : Int} (h1 : 2 ≤ k) (h2 : k ≤ 9) (hw : canon k x = x) (n1 : 0 ≤ n) (n2 : n < 18446744073709551616) : bv 9 k x n = canon k (x * 2 ^ min n.toNat 64) := by
  rw [bv_shift (.inl rfl) h1 h2 hw n1 n2]
  split
  · rw [bsu 9 k x n (by omega) (by omega) (by omega) (by omega), bu9]
  · rw [bu9]

theorem shl_over {k x n : Int} (h1 : 2 ≤ k) (h2 : k ≤ 9) (hw : canon k x = x) (n1 : 64 ≤ n) (n2 : n < 18446744073709551616) : bv 9 k x n = 0 := by
  rw [bv_shl h1 h2 hw (by omega) n2, show min n.toNat 64 = 64 by omega]
  have := canon_over k x h1 h2 1
  rw [Int.mul_one] at this
  exact this

theorem shl_step {k x n : Int} (h1 : 2 ≤ k) (h2 : k ≤ 9) (hw : canon k x = x) (n1 : 0 ≤ n) (n2 : n + 1 < 18446744073709551616) : bv 9 k (bv 9 k x n) 1 = bv 9 k x (n + 1) := by
  have e := bv_shl h1 h2 hw n1 (by omega)
  rw [bv_shl h1 h2 (by rw [e, canon_canon]) (by omega) (by omega), e, canon_mul k _ _ h1 h2]
  by_cases h : n < 64
  · rw [bv_shl h1 h2 hw (by omega) n2, show min n.toNat 64 = n.toNat by omega, show min (n + 1).toNat 64 = n.toNat + 1 by omega, Int.pow_succ, Int.mul_assoc]; rfl
  · rw [shl_over h1 h2 hw (by omega) n2, show min n.toNat 64 = 64 by omega]
    exact canon_over k x h1 h2 2

/-- how far the numbers of a signed kind go -/
def hf (k : Int) : Int := if k = 2 then 128 else if k = 3 then 32768 else if k = 4 then 2147483648 else 9223372036854775808
theorem hf2 : hf 2 = 128 := rfl
theorem hf3 : hf 3 = 32768 := rfl
theorem hf4 : hf 4 = 2147483648 := rfl
theorem hf5 : hf 5 = 9223372036854775808 := rfl
theorem signs {k : Int} (h1 : 2 ≤ k) (h2 : k ≤ 5) : k = 2 ∨ k = 3 ∨ k = 4 ∨ k = 5 := by omega
theorem sg_in {k x : Int} (h1 : 2 ≤ k) (h2 : k ≤ 5) (hw : canon k x = x) : -hf k ≤ sg x ∧ sg x < hf k := by
  rcases signs h1 h2 with h | h | h | h <;> (subst h; simp only [canon2, canon3, canon4, canon5] at hw; simp only [hf2, hf3, hf4, hf5, sg]; omega)
theorem hf_le {k : Int} (h1 : 2 ≤ k) (h2 : k ≤ 5) : 128 ≤ hf k ∧ hf k ≤ 9223372036854775808 := by
  rcases signs h1 h2 with h | h | h | h <;> (subst h; decide)
theorem canon_in {k s : Int} (h1 : 2 ≤ k) (h2 : k ≤ 5) (a : -hf k ≤ s) (b : s < hf k) : canon k (s % 18446744073709551616) = s % 18446744073709551616 := by
  rcases signs h1 h2 with h | h | h | h <;> (subst h; simp only [hf2, hf3, hf4, hf5] at a b; simp only [canon2, canon3, canon4, canon5]; omega)
theorem sg_mod {k s : Int} (h1 : 2 ≤ k) (h2 : k ≤ 5) (a : -hf k ≤ s) (b : s < hf k) : sg (s % 18446744073709551616) = s := by
  have := hf_le h1 h2
  unfold sg; omega
theorem div_in {h s : Int} (m : Nat) (h0 : 0 ≤ h) (a : -h ≤ s) (b : s < h) : -h ≤ s / 2 ^ m ∧ s / 2 ^ m < h := by
  have p : (0 : Int) < 2 ^ m := Int.pow_pos (by omega)
  have q : h * 1 ≤ h * 2 ^ m := Int.mul_le_mul_of_nonneg_left (by omega) h0
  exact ⟨Int.le_ediv_of_mul_le p (by rw [Int.neg_mul]; omega), Int.ediv_lt_of_lt_mul p (by omega)⟩

theorem uns {k : Int} (h1 : 6 ≤ k) (h2 : k ≤ 9) : k = 6 ∨ k = 7 ∨ k = 8 ∨ k = 9 := by omega
theorem u_in {k x : Int} (h1 : 6 ≤ k) (h2 : k ≤ 9) (hw : canon k x = x) : 0 ≤ x ∧ x < pw k := by
  rcases uns h1 h2 with h | h | h | h <;> (subst h; simp only [canon6, canon7, canon8, canon9] at hw; simp only [pw6, pw7, pw8, pw9]; omega)
theorem canon_uin {k x : Int} (h1 : 6 ≤ k) (h2 : k ≤ 9) (a : 0 ≤ x) (b : x < pw k) : canon k x = x := by
  rcases uns h1 h2 with h | h | h | h <;> (subst h; simp only [pw6, pw7, pw8, pw9] at b; simp only [canon6, canon7, canon8, canon9]; omega)

theorem bv_shrS {k x n : Int} (h1 : 2 ≤ k) (h2 : k ≤ 5) (hw : canon k x = x) (n1 : 0 ≤ n) (n2 : n < 18446744073709551616) : bv 10 k x n = (sg x / 2 ^ min n.toNat 64) % 18446744073709551616 := by
  rw [bv_shift (.inr rfl) h1 (by omega) hw n1 n2, if_pos (by simp [sgnB]; omega), bs10]
theorem bv_shrU {k x n : Int} (h1 : 6 ≤ k) (h2 : k ≤ 9) (hw : canon k x = x) (n1 : 0 ≤ n) (n2 : n < 18446744073709551616) : bv 10 k x n = x / 2 ^ min n.toNat 64 := by
  have ⟨a, b⟩ := u_in h1 h2 hw
  rw [bv_shift (.inr rfl) (by omega) h2 hw n1 n2, if_neg (by simp [sgnB]; omega), bu10, canon_uin h1 h2 (Int.ediv_nonneg a (by have := Int.pow_pos (n := 2) (m := min n.toNat 64) (by omega); omega)) (Int.lt_of_le_of_lt (Int.ediv_le_self _ a) b)]

theorem shr_word {k x n : Int} (h1 : 2 ≤ k) (h2 : k ≤ 9) (hw : canon k x = x) (n1 : 0 ≤ n) (n2 : n < 18446744073709551616) : canon k (bv 10 k x n) = bv 10 k x n := by
  by_cases h : k ≤ 5
  · have ⟨a, b⟩ := sg_in h1 h hw
    have ⟨c, d⟩ := div_in (min n.toNat 64) (by have := hf_le h1 h; omega) a b
    rw [bv_shrS h1 h hw n1 n2, canon_in h1 h c d]
  · have ⟨a, b⟩ := u_in (by omega) h2 hw
    rw [bv_shrU (by omega) h2 hw n1 n2, canon_uin (by omega) h2 (Int.ediv_nonneg a (by have := Int.pow_pos (n := 2) (m := min n.toNat 64) (by omega); omega)) (Int.lt_of_le_of_lt (Int.ediv_le_self _ a) b)]

theorem half_far {s : Int} (a : -9223372036854775808 ≤ s) (b : s < 18446744073709551616) : s / 2 ^ 64 / 2 = s / 2 ^ 64 := by
  have : (2 : Int) ^ 64 = 18446744073709551616 := by decide
  rw [this]; omega

theorem step_div {s n : Int} (n1 : 0 ≤ n) (a : -9223372036854775808 ≤ s) (b : s < 18446744073709551616) : s / 2 ^ min n.toNat 64 / 2 ^ min (1 : Int).toNat 64 = s / 2 ^ min (n + 1).toNat 64 := by
  rw [show (2 : Int) ^ min (1 : Int).toNat 64 = 2 from rfl]
  by_cases h : n < 64
  · rw [show min n.toNat 64 = n.toNat by omega, show min (n + 1).toNat 64 = n.toNat + 1 by omega, Int.pow_succ, Int.ediv_ediv_of_nonneg (by have := Int.pow_pos (n := 2) (m := n.toNat) (by omega); omega)]
  · rw [show min n.toNat 64 = 64 by omega, show min (n + 1).toNat 64 = 64 by omega, half_far a b]

theorem shr_step {k x n : Int} (h1 : 2 ≤ k) (h2 : k ≤ 9) (hw : canon k x = x) (n1 : 0 ≤ n) (n2 : n + 1 < 18446744073709551616) : bv 10 k (bv 10 k x n) 1 = bv 10 k x (n + 1) := by
  have hw' := shr_word h1 h2 hw n1 (by omega)
  by_cases h : k ≤ 5
  · have ⟨a, b⟩ := sg_in h1 h hw
    have hh := hf_le h1 h
    have ⟨c, d⟩ := div_in (min n.toNat 64) (by omega) a b
    rw [bv_shrS h1 h hw' (by omega) (by omega), bv_shrS h1 h hw n1 (by omega), sg_mod h1 h c d, bv_shrS h1 h hw (by omega) n2, step_div n1 (by omega) (by omega)]
  · have ⟨a, b⟩ := u_in (by omega) h2 hw
    have hp : pw k ≤ 18446744073709551616 := by rcases uns (by omega) h2 with h | h | h | h <;> (subst h; decide)
    rw [bv_shrU (by omega) h2 hw' (by omega) (by omega), bv_shrU (by omega) h2 hw n1 (by omega), bv_shrU (by omega) h2 hw (by omega) n2, step_div n1 (by omega) (by omega)]

theorem shr_far {k x n : Int} (h1 : 2 ≤ k) (h2 : k ≤ 9) (hw : canon k x = x) (n1 : 64 ≤ n) (n2 : n < 18446744073709551616) : bv 10 k x n = bv 10 k x 64 := by
  by_cases h : k ≤ 5
  · rw [bv_shrS h1 h hw (by omega) n2, bv_shrS h1 h hw (by omega) (by omega), show min n.toNat 64 = 64 by omega]; rfl
  · rw [bv_shrU (by omega) h2 hw (by omega) n2, bv_shrU (by omega) h2 hw (by omega) (by omega), show min n.toNat 64 = 64 by omega]; rfl

theorem shl_none {k x : Int} (h1 : 2 ≤ k) (h2 : k ≤ 9) (hw : canon k x = x) : bv 9 k x 0 = x := by
  rw [bv_shl h1 h2 hw (by omega) (by omega)]; show canon k (x * 1) = x; rw [Int.mul_one, hw]
theorem shr_none {k x : Int} (h1 : 2 ≤ k) (h2 : k ≤ 9) (hx : 0 ≤ x) (hx2 : x < 18446744073709551616) (hw : canon k x = x) : bv 10 k x 0 = x := by
  by_cases h : k ≤ 5
  · rw [bv_shrS h1 h hw (by omega) (by omega)]; show (sg x / 1) % _ = x; rw [Int.ediv_one]; unfold sg; omega
  · rw [bv_shrU (by omega) h2 hw (by omega) (by omega)]; show x / 1 = x; rw [Int.ediv_one]
theorem bv_rng {op k x y : Int} : 0 ≤ bv op k x y ∧ bv op k x y < 18446744073709551616 := by
  have c : ∀ a b, 0 ≤ cmpI op a b ∧ cmpI op a b < 18446744073709551616 := fun a b => by rcases cmpI_tr (op := op) (a := a) (b := b) with h | h <;> rw [h] <;> omega
  have u : 0 ≤ bu op k x y ∧ bu op k x y < 18446744073709551616 := by
    unfold bu; repeat' split
    all_goals first | exact canon_rng _ _ | exact c _ _
  have v : 0 ≤ bs op k x y ∧ bs op k x y < 18446744073709551616 := by
    unfold bs; repeat' split
    all_goals first | exact canon_rng _ _ | exact c _ _ | exact u | omega
  unfold bv binI
  repeat' split
  all_goals first | exact u | exact v | (show (0 : Int) ≤ 0 ∧ (0 : Int) < 18446744073709551616; omega)

end Wd
end Go.Proofs.YtbghjlamedlchaaDoor

/- The laws of words that are whole numbers: plain arithmetic. -/
namespace Go.Proofs.YtbghjlamedlchaaDoor
namespace Wd
set_option linter.unusedVariables false

/-- a and b are one modulo 2^width -/
def Cg (k a b : Int) : Prop := ∃ t, a = b + pw k * t
theorem Cg.refl (k a : Int) : Cg k a a := ⟨0, by omega⟩
theorem Cg.of {k a b : Int} (h : a = b) : Cg k a b := h ▸ Cg.refl k a
theorem Cg.symm {k a b : Int} (h : Cg k a b) : Cg k b a := by obtain ⟨t, h⟩ := h; exact ⟨-t, by rw [h, Int.mul_neg]; omega⟩
theorem Cg.trans {k a b c : Int} (h : Cg k a b) (g : Cg k b c) : Cg k a c := by obtain ⟨t, h⟩ := h; obtain ⟨u, g⟩ := g; exact ⟨u + t, by rw [h, g, Int.mul_add]; omega⟩
theorem Cg.add {k a b c d : Int} (h : Cg k a b) (g : Cg k c d) : Cg k (a + c) (b + d) := by obtain ⟨t, h⟩ := h; obtain ⟨u, g⟩ := g; exact ⟨t + u, by rw [h, g, Int.mul_add]; omega⟩
theorem Cg.neg {k a b : Int} (h : Cg k a b) : Cg k (-a) (-b) := by obtain ⟨t, h⟩ := h; exact ⟨-t, by rw [h, Int.mul_neg]; omega⟩
theorem Cg.sub {k a b c d : Int} (h : Cg k a b) (g : Cg k c d) : Cg k (a - c) (b - d) := by rw [Int.sub_eq_add_neg, Int.sub_eq_add_neg]; exact h.add g.neg
theorem Cg.mul {k a b c d : Int} (h : Cg k a b) (g : Cg k c d) : Cg k (a * c) (b * d) := by
  obtain ⟨t, h⟩ := h; obtain ⟨u, g⟩ := g
  refine ⟨t * d + b * u + pw k * t * u, ?_⟩
  rw [h, g]
  simp only [Int.add_mul, Int.mul_add, Int.mul_assoc, Int.mul_comm, Int.mul_left_comm]
  omega
theorem Cg.canon {k a : Int} (h1 : 2 ≤ k) (h2 : k ≤ 9) : Cg k (canon k a) a := canon_is k a h1 h2
theorem Cg.eq {k a b : Int} (h1 : 2 ≤ k) (h2 : k ≤ 9) (h : Cg k a b) : Wd.canon k a = Wd.canon k b := by obtain ⟨t, h⟩ := h; exact canon_eq h1 h2 t h
theorem Cg.word {k a x : Int} (h1 : 2 ≤ k) (h2 : k ≤ 9) (hw : Wd.canon k x = x) (h : Cg k a x) : Wd.canon k a = x := by rw [h.eq h1 h2, hw]
theorem Cg.sg {k x : Int} (h1 : 2 ≤ k) (h2 : k ≤ 9) : Cg k (sg x) x := by
  obtain ⟨t, ht⟩ := pw_dvd h1 h2
  refine ⟨t * ((Wd.sg x - x) / 18446744073709551616), ?_⟩
  rw [← Int.mul_assoc, ← ht]; unfold Wd.sg; omega

theorem bv_int {op k x y : Int} (h1 : 2 ≤ k) (h2 : k ≤ 9) (o1 : 1 ≤ op) (o2 : op ≤ 16) (o9 : op ≠ 9) (o10 : op ≠ 10) (hx : canon k x = x) (hy : canon k y = y) (hz : op = 4 ∨ op = 5 → y ≠ 0) :
    bv op k x y = if sgnB k then bs op k x y else bu op k x y := by
  have hh : hasBinB op k = true := by
    have : intB k = true := by simp [intB]; omega
    simp [hasBinB, this, o1, o2]
  have hs : shB op = false := by simp [shB, o9, o10]
  have i1 : isB k x = true := is_word (by omega) (by omega) hx
  have i2 : isB k y = true := is_word (by omega) (by omega) hy
  unfold bv binI
  rw [if_neg (by rw [hh]; simp), hs, if_neg (by simp [i1, i2]), if_neg (fun h => hz h.2 h.1)]
  split <;> rfl
theorem bv_plain {op k x y : Int} (h1 : 2 ≤ k) (h2 : k ≤ 9) (o1 : 1 ≤ op) (o2 : op ≤ 8) (o4 : op ≠ 4) (o5 : op ≠ 5) (hx : canon k x = x) (hy : canon k y = y) : bv op k x y = bu op k x y := by
  rw [bv_int h1 h2 o1 (by omega) (by omega) (by omega) hx hy (by omega)]
  split
  · rw [bsu op k x y (by omega) o4 o5 (by omega)]
  · rfl

theorem add_is {k x y : Int} (h1 : 2 ≤ k) (h2 : k ≤ 9) (hx : canon k x = x) (hy : canon k y = y) : bv 1 k x y = canon k (x + y) := bv_plain h1 h2 (by omega) (by omega) (by omega) (by omega) hx hy
theorem sub_is {k x y : Int} (h1 : 2 ≤ k) (h2 : k ≤ 9) (hx : canon k x = x) (hy : canon k y = y) : bv 2 k x y = canon k (x - y) := bv_plain h1 h2 (by omega) (by omega) (by omega) (by omega) hx hy
theorem mul_is {k x y : Int} (h1 : 2 ≤ k) (h2 : k ≤ 9) (hx : canon k x = x) (hy : canon k y = y) : bv 3 k x y = canon k (x * y) := bv_plain h1 h2 (by omega) (by omega) (by omega) (by omega) hx hy
theorem and_is {k x y : Int} (h1 : 2 ≤ k) (h2 : k ≤ 9) (hx : canon k x = x) (hy : canon k y = y) : bv 6 k x y = canon k (x.toNat &&& y.toNat : Nat) := bv_plain h1 h2 (by omega) (by omega) (by omega) (by omega) hx hy
theorem or_is {k x y : Int} (h1 : 2 ≤ k) (h2 : k ≤ 9) (hx : canon k x = x) (hy : canon k y = y) : bv 7 k x y = canon k (x.toNat ||| y.toNat : Nat) := bv_plain h1 h2 (by omega) (by omega) (by omega) (by omega) hx hy
theorem xor_is {k x y : Int} (h1 : 2 ≤ k) (h2 : k ≤ 9) (hx : canon k x = x) (hy : canon k y = y) : bv 8 k x y = canon k (x.toNat ^^^ y.toNat : Nat) := bv_plain h1 h2 (by omega) (by omega) (by omega) (by omega) hx hy
theorem add_comm' {k x y : Int} (h1 : 2 ≤ k) (h2 : k ≤ 9) (hx : canon k x = x) (hy : canon k y = y) : bv 1 k x y = bv 1 k y x := by rw [add_is h1 h2 hx hy, add_is h1 h2 hy hx, Int.add_comm]
theorem mul_comm' {k x y : Int} (h1 : 2 ≤ k) (h2 : k ≤ 9) (hx : canon k x = x) (hy : canon k y = y) : bv 3 k x y = bv 3 k y x := by rw [mul_is h1 h2 hx hy, mul_is h1 h2 hy hx, Int.mul_comm]
theorem mul_add' {k x y w : Int} (h1 : 2 ≤ k) (h2 : k ≤ 9) (hx : canon k x = x) (hy : canon k y = y) (hw : canon k w = w) : bv 3 k x (bv 1 k y w) = bv 1 k (bv 3 k x y) (bv 3 k x w) := by
  rw [add_is h1 h2 hy hw, mul_is h1 h2 hx (canon_canon _ _), mul_is h1 h2 hx hy, mul_is h1 h2 hx hw, add_is h1 h2 (canon_canon _ _) (canon_canon _ _)]
  refine Cg.eq h1 h2 ?_
  refine ((Cg.refl k x).mul (Cg.canon h1 h2)).trans ?_
  rw [Int.mul_add]
  exact ((Cg.canon h1 h2).add (Cg.canon h1 h2)).symm
theorem add_assoc' {k x y w : Int} (h1 : 2 ≤ k) (h2 : k ≤ 9) (hx : canon k x = x) (hy : canon k y = y) (hw : canon k w = w) : bv 1 k (bv 1 k x y) w = bv 1 k x (bv 1 k y w) := by
  rw [add_is h1 h2 hx hy, add_is h1 h2 hy hw, add_is h1 h2 (canon_canon _ _) hw, add_is h1 h2 hx (canon_canon _ _)]
  refine Cg.eq h1 h2 ?_
  refine ((Cg.canon h1 h2).add (Cg.refl k w)).trans ?_
  rw [Int.add_assoc]
  exact ((Cg.refl k x).add (Cg.canon h1 h2)).symm
theorem sub_neg' {k x y : Int} (h1 : 2 ≤ k) (h2 : k ≤ 9) (hx : canon k x = x) (hy : canon k y = y) : bv 2 k x y = bv 1 k x (canon k (-y)) := by
  rw [sub_is h1 h2 hx hy, add_is h1 h2 hx (canon_canon _ _)]
  refine Cg.eq h1 h2 ?_
  rw [Int.sub_eq_add_neg]
  exact ((Cg.refl k x).add (Cg.canon h1 h2)).symm

/-! ### bits -/
def ww (k : Int) : Nat := if k = 2 ∨ k = 6 then 8 else if k = 3 ∨ k = 7 then 16 else if k = 4 ∨ k = 8 then 32 else 64
theorem pw_ww {k : Int} (h1 : 2 ≤ k) (h2 : k ≤ 9) : pw k = ((2 ^ ww k : Nat) : Int) := by
  rcases ints h1 h2 with h | h | h | h | h | h | h | h <;> (subst h; decide)
/-- two natural numbers with the same lowest bits -/
theorem cg_nat {k : Int} (h1 : 2 ≤ k) (h2 : k ≤ 9) {a b : Nat} (h : a % 2 ^ ww k = b % 2 ^ ww k) : Cg k (a : Int) (b : Int) := by
  refine ⟨(a / 2 ^ ww k : Nat) - (b / 2 ^ ww k : Nat), ?_⟩
  rw [pw_ww h1 h2]
  have e1 := Nat.div_add_mod a (2 ^ ww k)
  have e2 := Nat.div_add_mod b (2 ^ ww k)
  rw [h] at e1
  have e1' : ((2 ^ ww k : Nat) : Int) * ((a / 2 ^ ww k : Nat) : Int) + ((b % 2 ^ ww k : Nat) : Int) = (a : Int) := by rw [← Int.natCast_mul, ← Int.natCast_add, e1]
  have e2' : ((2 ^ ww k : Nat) : Int) * ((b / 2 ^ ww k : Nat) : Int) + ((b % 2 ^ ww k : Nat) : Int) = (b : Int) := by rw [← Int.natCast_mul, ← Int.natCast_add, e2]
  rw [Int.mul_sub]; omega
theorem nat_cg {k : Int} (h1 : 2 ≤ k) (h2 : k ≤ 9) {a b : Int} (ha : 0 ≤ a) (hb : 0 ≤ b) (h : Cg k a b) : a.toNat % 2 ^ ww k = b.toNat % 2 ^ ww k := by
  obtain ⟨t, h⟩ := h
  rw [pw_ww h1 h2] at h
  have e : a % ((2 ^ ww k : Nat) : Int) = b % ((2 ^ ww k : Nat) : Int) := by rw [h, Int.add_mul_emod_self_left]
  have ea : ((a.toNat % 2 ^ ww k : Nat) : Int) = a % ((2 ^ ww k : Nat) : Int) := by rw [Int.natCast_emod, Int.toNat_of_nonneg ha]
  have eb : ((b.toNat % 2 ^ ww k : Nat) : Int) = b % ((2 ^ ww k : Nat) : Int) := by rw [Int.natCast_emod, Int.toNat_of_nonneg hb]
  omega

theorem word_nn {k x : Int} (hx : canon k x = x) : 0 ≤ x ∧ x < 18446744073709551616 := by have := canon_rng k x; rw [hx] at this; exact this

theorem xor_all {a : Nat} (h : a < 18446744073709551616) : a ^^^ (18446744073709551615 - a) = 18446744073709551615 := by
  have e : (18446744073709551615 - a : Nat) = 18446744073709551615 ^^^ a := (xor_ones h).symm
  rw [e, Nat.xor_comm 18446744073709551615 a, ← Nat.xor_assoc, Nat.xor_self, Nat.zero_xor]
theorem and_none {a : Nat} (h : a < 18446744073709551616) : a &&& (18446744073709551615 - a) = 0 := by
  have e : (18446744073709551615 - a : Nat) = 18446744073709551615 ^^^ a := (xor_ones h).symm
  have o : (18446744073709551615 : Nat) = 2 ^ 64 - 1 := by decide
  refine Nat.eq_of_testBit_eq fun i => ?_
  rw [e, o, Nat.testBit_and, Nat.testBit_xor, Nat.testBit_two_pow_sub_one, Nat.zero_testBit]
  by_cases hi : i < 64
  · simp [hi]
  · have p : 2 ^ 64 ≤ 2 ^ i := Nat.pow_le_pow_right (by omega) (by omega)
    rw [Nat.testBit_lt_two_pow (x := a) (by omega)]; simp
theorem or_both (a b : Nat) : (a &&& b) ||| (a ^^^ b) = a ||| b := by
  refine Nat.eq_of_testBit_eq fun i => ?_
  rw [Nat.testBit_or, Nat.testBit_and, Nat.testBit_xor, Nat.testBit_or]
  cases a.testBit i <;> cases b.testBit i <;> rfl

/-- the complement: a word again -/
theorem com_cg {k x : Int} (h1 : 2 ≤ k) (h2 : k ≤ 9) (hx : canon k x = x) : (canon k (18446744073709551615 - x)).toNat % 2 ^ ww k = (18446744073709551615 - x.toNat) % 2 ^ ww k := by
  have ⟨a, b⟩ := word_nn hx
  have := nat_cg h1 h2 (canon_rng k (18446744073709551615 - x)).1 (by omega) (Cg.canon (k := k) (a := 18446744073709551615 - x) h1 h2)
  rw [this, show (18446744073709551615 - x).toNat = 18446744073709551615 - x.toNat by omega]
theorem xor_com {k x : Int} (h1 : 2 ≤ k) (h2 : k ≤ 9) (hx : canon k x = x) : bv 8 k x (canon k (18446744073709551615 - x)) = canon k 18446744073709551615 := by
  have ⟨a, b⟩ := word_nn hx
  rw [xor_is h1 h2 hx (canon_canon _ _)]
  refine Cg.eq h1 h2 ((cg_nat h1 h2 (b := 18446744073709551615) ?_).trans (Cg.of rfl))
  rw [Nat.xor_mod_two_pow, com_cg h1 h2 hx, ← Nat.xor_mod_two_pow, xor_all (by omega)]
theorem and_com {k x : Int} (h1 : 2 ≤ k) (h2 : k ≤ 9) (hx : canon k x = x) : bv 6 k x (canon k (18446744073709551615 - x)) = 0 := by
  have ⟨a, b⟩ := word_nn hx
  rw [and_is h1 h2 hx (canon_canon _ _), ← canon_zero k]
  refine Cg.eq h1 h2 ((cg_nat h1 h2 (b := 0) ?_).trans (Cg.of rfl))
  rw [Nat.and_mod_two_pow, com_cg h1 h2 hx, ← Nat.and_mod_two_pow, and_none (by omega)]
theorem or_and_xor {k x y : Int} (h1 : 2 ≤ k) (h2 : k ≤ 9) (hx : canon k x = x) (hy : canon k y = y) : bv 7 k (bv 6 k x y) (bv 8 k x y) = bv 7 k x y := by
  rw [and_is h1 h2 hx hy, xor_is h1 h2 hx hy, or_is h1 h2 hx hy, or_is h1 h2 (canon_canon _ _) (canon_canon _ _)]
  refine Cg.eq h1 h2 (cg_nat h1 h2 ?_)
  have ea := nat_cg h1 h2 (canon_rng k _).1 (Int.natCast_nonneg _) (Cg.canon (k := k) (a := ((x.toNat &&& y.toNat : Nat) : Int)) h1 h2)
  have eb := nat_cg h1 h2 (canon_rng k _).1 (Int.natCast_nonneg _) (Cg.canon (k := k) (a := ((x.toNat ^^^ y.toNat : Nat) : Int)) h1 h2)
  rw [Nat.or_mod_two_pow, ea, eb, Int.toNat_natCast, Int.toNat_natCast, ← Nat.or_mod_two_pow, or_both]

/-! ### order -/
/-- the number that a word of kind k is -/
def nm (k x : Int) : Int := if sgnB k then sg x else x
theorem cmp_is {op k x y : Int} (h1 : 2 ≤ k) (h2 : k ≤ 9) (o1 : 11 ≤ op) (o2 : op ≤ 16) (hx : canon k x = x) (hy : canon k y = y) : bv op k x y = cmpI op (nm k x) (nm k y) := by
  rw [bv_int h1 h2 (by omega) o2 (by omega) (by omega) hx hy (by omega), nm, nm]
  split
  · rw [bsc op k x y o1]
  · rw [buc op k x y o1]
theorem lt_gt {k x y : Int} (h1 : 2 ≤ k) (h2 : k ≤ 9) (hx : canon k x = x) (hy : canon k y = y) : bv 13 k x y = bv 15 k y x := by
  rw [cmp_is h1 h2 (by omega) (by omega) hx hy, cmp_is h1 h2 (by omega) (by omega) hy hx]; rfl
theorem lt_ge {k x y : Int} (h1 : 2 ≤ k) (h2 : k ≤ 9) (hx : canon k x = x) (hy : canon k y = y) : bv 13 k x y + bv 16 k x y = 1 := by
  rw [cmp_is h1 h2 (by omega) (by omega) hx hy, cmp_is h1 h2 (by omega) (by omega) hx hy]
  show tr (decide (nm k x < nm k y)) + tr (decide (nm k y ≤ nm k x)) = 1
  unfold tr; by_cases h : nm k x < nm k y
  · have b : ¬ nm k y ≤ nm k x := by omega
    simp [h, b]
  · have b : nm k y ≤ nm k x := by omega
    simp [h, b]
theorem eq_ne {k x y : Int} (h1 : 2 ≤ k) (h2 : k ≤ 9) (hx : canon k x = x) (hy : canon k y = y) : bv 11 k x y + bv 12 k x y = 1 := by
  rw [cmp_is h1 h2 (by omega) (by omega) hx hy, cmp_is h1 h2 (by omega) (by omega) hx hy]
  show tr (nm k x == nm k y) + tr (nm k x != nm k y) = 1
  unfold tr; by_cases h : nm k x = nm k y <;> simp [h]
theorem lt_eq_le {k x y : Int} (h1 : 2 ≤ k) (h2 : k ≤ 9) (hx : canon k x = x) (hy : canon k y = y) : bv 13 k x y + bv 11 k x y = bv 14 k x y := by
  rw [cmp_is h1 h2 (by omega) (by omega) hx hy, cmp_is h1 h2 (by omega) (by omega) hx hy, cmp_is h1 h2 (by omega) (by omega) hx hy]
  show tr (decide (nm k x < nm k y)) + tr (nm k x == nm k y) = tr (decide (nm k x ≤ nm k y))
  unfold tr
  by_cases h : nm k x < nm k y
  · have a : ¬ nm k x = nm k y := by omega
    have b : nm k x ≤ nm k y := by omega
    simp [h, a, b]
  · by_cases g : nm k x = nm k y
    · simp [g]
    · have b : ¬ nm k x ≤ nm k y := by omega
      simp [h, g, b]

/-! ### quotients -/
theorem quo_rem {k x y : Int} (h1 : 2 ≤ k) (h2 : k ≤ 9) (hx : canon k x = x) (hy : canon k y = y) (hz : y ≠ 0) : bv 1 k (bv 3 k (bv 4 k x y) y) (bv 5 k x y) = x := by
  have q : bv 4 k x y = canon k ((nm k x).tdiv (nm k y)) ∧ bv 5 k x y = canon k ((nm k x).tmod (nm k y)) := by
    rw [bv_int h1 h2 (by omega) (by omega) (by omega) (by omega) hx hy (fun _ => hz), bv_int h1 h2 (by omega) (by omega) (by omega) (by omega) hx hy (fun _ => hz), nm, nm]
    have a := word_nn hx
    have b := word_nn hy
    split
    · exact ⟨bs4 k x y, bs5 k x y⟩
    · rw [bu4, bu5, Int.tdiv_eq_ediv_of_nonneg a.1, Int.tmod_eq_emod_of_nonneg a.1]; exact ⟨rfl, rfl⟩
  have nx : Cg k (nm k x) x := by unfold nm; split; { exact Cg.sg h1 h2 }; exact Cg.refl k x
  have ny : Cg k (nm k y) y := by unfold nm; split; { exact Cg.sg h1 h2 }; exact Cg.refl k y
  rw [q.1, q.2, mul_is h1 h2 (canon_canon _ _) hy, add_is h1 h2 (canon_canon _ _) (canon_canon _ _)]
  refine Cg.word h1 h2 hx ?_
  refine ((Cg.canon h1 h2).add (Cg.canon h1 h2)).trans ?_
  refine ((((Cg.canon h1 h2).mul (Cg.refl k y)).trans ((Cg.refl k _).mul ny.symm)).add (Cg.refl k _)).trans ?_
  rw [Int.tdiv_mul_add_tmod]
  exact nx

end Wd
end Go.Proofs.YtbghjlamedlchaaDoor

/- Bin, and the laws' bin, at every kind: contracts. -/
namespace Go.Proofs.YtbghjlamedlchaaDoor
open Go.RowKit
set_option linter.unusedVariables false

namespace Fl
def binF (op x y : Int) : Int × Int := if Wd.hasBinB op 10 then (bf op x y, 0) else (0, 10)
/-- Bin: the word and the error -/
def binA (op k x y : Int) : Int × Int := if k = 10 then binF op x y else Wd.binI op k x y
end Fl

theorem is10 {x : Int} (h1 : 0 ≤ x) (h2 : x < 18446744073709551616) : Wd.isB 10 x = true := Wd.is_word (by omega) (by omega) (by rw [Wd.canon10]; omega)

set_option maxHeartbeats 1000000 in
theorem binF_ok (op x y : Int) (w : World) (hx : 0 ≤ x) (hx2 : x < 18446744073709551616) (hy : 0 ≤ y) (hy2 : y < 18446744073709551616) (hh : Wd.hasBinB op 10 = true) :
    Calls Tryd.prog 69 #[.int .i64 op, .int .i64 10, .int .u64 x, .int .u64 y] w fun e w' => e = .returned (.tuple #[.int .u64 (Fl.bf op x y), .int .i64 0]) ∧ ∃ n, w' = w.drewN n := by
  have i1 := is10 hx hx2
  have i2 := is10 hy hy2
  have o9 : (op == 9) = false := by rw [beq_eq_false_iff_ne]; rintro rfl; simp [Wd.hasBinB, Wd.intB, Wd.cmpB] at hh
  have o10 : (op == 10) = false := by rw [beq_eq_false_iff_ne]; rintro rfl; simp [Wd.hasBinB, Wd.intB, Wd.cmpB] at hh
  go_enter Tryd.func69, Tryd.ntmps69
  go_wp2_with (first | (go_at_call 77; refine (hasBin_any _ _ _).mono ?_; rintro e w' ⟨rfl, rfl⟩) | (go_at_call 78; refine (is_any _ _ _ (by assumption) (by assumption)).mono ?_; rintro e w' ⟨rfl, rfl⟩) | (go_at_call 79; refine (binF_any _ _ _ _ (by assumption)).mono ?_; rintro e w' ⟨rfl, n, rfl⟩))
  go_ret2
  exact ⟨rfl, _, rfl⟩

theorem binA_any (op k x y : Int) (w : World) (hx : 0 ≤ x) (hx2 : x < 18446744073709551616) (hy : 0 ≤ y) (hy2 : y < 18446744073709551616) :
    Calls Tryd.prog 69 #[.int .i64 op, .int .i64 k, .int .u64 x, .int .u64 y] w fun e w' => e = .returned (.tuple #[.int .u64 (Fl.binA op k x y).1, .int .i64 (Fl.binA op k x y).2]) ∧ ∃ n, w' = w.drewN n := by
  by_cases hk : k = 10
  · subst hk
    rw [show Fl.binA op 10 x y = Fl.binF op x y from rfl]
    unfold Fl.binF
    cases hh : Wd.hasBinB op 10
    · rw [if_neg (by simp)]
      refine (binI_kind op 10 x y w hh).mono ?_
      rintro e w' ⟨rfl, rfl⟩
      exact ⟨rfl, 0, rfl⟩
    · rw [if_pos rfl]
      exact binF_ok op x y w hx hx2 hy hy2 hh
  · rw [show Fl.binA op k x y = Wd.binI op k x y from if_neg hk]
    refine (binI_any op k x y w hx hx2 hy hy2 hk).mono ?_
    rintro e w' ⟨rfl, rfl⟩
    exact ⟨rfl, 0, rfl⟩

namespace Fl
def bv (op x y : Int) : Int := (binF op x y).1
theorem ar_rng (op x y : Int) : 0 ≤ ar op x y ∧ ar op x y < 18446744073709551616 := by
  unfold ar
  cases h : raw op x y with
  | none => exact ⟨by decide, by decide⟩
  | some r =>
    have : r < 2 ^ Ieee.double.width := by
      unfold raw at h
      repeat' split at h
      all_goals first | exact Ieee.Format.add_lt _ h | exact Ieee.Format.sub_lt _ h | exact Ieee.Format.mul_lt _ h | exact Ieee.Format.div_lt _ h
    have e : 2 ^ Ieee.double.width = 18446744073709551616 := by decide +kernel
    rw [e] at this
    show 0 ≤ (r : Int) ∧ (r : Int) < _
    omega
theorem tr01 (b : Bool) : 0 ≤ Wd.tr b ∧ Wd.tr b ≤ 1 := by cases b <;> decide
theorem cmp01 (op x y : Int) : 0 ≤ cmpF op x y ∧ cmpF op x y ≤ 1 := by
  unfold cmpF cmpN
  repeat' split
  all_goals first | exact tr01 _ | omega
theorem bv_rng {op x y : Int} : 0 ≤ bv op x y ∧ bv op x y < 18446744073709551616 := by
  unfold bv binF bf
  have a := ar_rng op x y
  have c := cmp01 op x y
  repeat' split
  all_goals first | exact a | (show 0 ≤ cmpF op x y ∧ _; omega) | (show (0 : Int) ≤ 0 ∧ _; omega)
end Fl

end Go.Proofs.YtbghjlamedlchaaDoor

/- The laws of floats: plain. -/
namespace Go.Proofs.YtbghjlamedlchaaDoor
namespace Fl
open Ieee
set_option linter.unusedVariables false

theorem opp_rdOf (neg : Bool) (r : Nat) : (rdOf neg r).opposite = rdOf (!neg) r := by
  unfold rdOf; repeat' split
  all_goals rfl
theorem flip_read {y : Int} (h1 : 0 ≤ y) (h2 : y < 18446744073709551616) : double.read (Wd.flip y).toNat = (double.read y.toNat).opposite := by
  rw [read_is, read_is, opp_rdOf]
  unfold Wd.flip
  split
  · rw [show (y + 9223372036854775808).toNat / 9223372036854775808 % 2 = 1 by omega, show y.toNat / 9223372036854775808 % 2 = 0 by omega, show (y + 9223372036854775808).toNat % 9223372036854775808 = y.toNat % 9223372036854775808 by omega]; rfl
  · rw [show (y - 9223372036854775808).toNat / 9223372036854775808 % 2 = 0 by omega, show y.toNat / 9223372036854775808 % 2 = 1 by omega, show (y - 9223372036854775808).toNat % 9223372036854775808 = y.toNat % 9223372036854775808 by omega]; rfl

theorem bv_add (x y : Int) : bv 1 x y = ar 1 x y := rfl
theorem bv_sub (x y : Int) : bv 2 x y = ar 2 x y := rfl
theorem bv_mul (x y : Int) : bv 3 x y = ar 3 x y := rfl
theorem bv_eq (x y : Int) : bv 11 x y = Wd.tr (ordN x.toNat y.toNat == some .eq) := rfl
theorem bv_ne (x y : Int) : bv 12 x y = Wd.tr (ordN x.toNat y.toNat != some .eq) := rfl
theorem bv_lt (x y : Int) : bv 13 x y = Wd.tr (ordN x.toNat y.toNat == some .lt) := rfl
theorem bv_gt (x y : Int) : bv 15 x y = Wd.tr (ordN x.toNat y.toNat == some .gt) := rfl

theorem ar_eq {op op' x y x' y' : Int} (h : raw op x y = raw op' x' y') : ar op x y = ar op' x' y' := by unfold ar; rw [h]
theorem add_comm (x y : Int) : bv 1 x y = bv 1 y x := by
  rw [bv_add, bv_add]
  refine ar_eq ?_
  show (Datum.sum _ _).map _ = (Datum.sum _ _).map _
  rw [sum_comm]
theorem mul_comm (x y : Int) : bv 3 x y = bv 3 y x := by
  rw [bv_mul, bv_mul]
  refine ar_eq ?_
  show (Datum.product _ _).map _ = (Datum.product _ _).map _
  rw [product_comm]
theorem sub_flip (x y : Int) (h1 : 0 ≤ y) (h2 : y < 18446744073709551616) : bv 2 x y = bv 1 x (Wd.flip y) := by
  rw [bv_sub, bv_add]
  refine ar_eq ?_
  show (Datum.sum (double.read x.toNat) (double.read y.toNat).opposite).map _ = (Datum.sum (double.read x.toNat) (double.read (Wd.flip y).toNat)).map _
  rw [flip_read h1 h2]
theorem sum_nan (x y : Int) : bv 12 (bv 1 x y) (bv 1 x y) = 0 ∨ bv 1 x y = 9221120237041090560 := by
  rw [bv_add]
  unfold ar
  cases h : raw 1 x y with
  | none => right; rfl
  | some r =>
    left
    show bv 12 (r : Int) (r : Int) = 0
    rw [bv_ne, Int.toNat_natCast]
    unfold ordN
    show Wd.tr (Datum.order (double.read r) (double.read r) != some .eq) = 0
    rw [order_self (raw_ok h)]; rfl
theorem nan_ord (x : Int) : ordN (9221120237041090560 : Int).toNat x.toNat = none := by
  have h : (double.read 9221120237041090560).isNaN = true := by decide +kernel
  exact order_nan (e := double.read x.toNat) h
theorem nan_eq (x : Int) : bv 11 9221120237041090560 x = 0 := by rw [bv_eq, nan_ord]; rfl
theorem nan_ne (x : Int) : bv 12 9221120237041090560 x = 1 := by rw [bv_ne, nan_ord]; rfl
theorem noughts : bv 11 0 9223372036854775808 = 1 := by decide +kernel
theorem lt_gt (x y : Int) : bv 13 x y = bv 15 y x := by
  rw [bv_lt, bv_gt]
  have h : ordN x.toNat y.toNat = (ordN y.toNat x.toNat).map Ordering.swap := order_swap _ _
  rw [h]
  cases ordN y.toNat x.toNat with
  | none => rfl
  | some o => cases o <;> rfl
theorem one_of (x y : Int) : bv 13 x y + bv 11 x y + bv 15 x y ≤ 1 := by
  rw [bv_lt, bv_gt, bv_eq]
  cases ordN x.toNat y.toNat with
  | none => decide
  | some o => cases o <;> decide
theorem b01 (op x y : Int) (h : op = 13 ∨ op = 11 ∨ op = 15) : 0 ≤ bv op x y ∧ bv op x y ≤ 1 := by
  rcases h with rfl | rfl | rfl <;> exact tr01 _
theorem flip_rng {y : Int} (h1 : 0 ≤ y) (h2 : y < 18446744073709551616) : 0 ≤ Wd.flip y ∧ Wd.flip y < 18446744073709551616 := by unfold Wd.flip; split <;> omega
theorem un_flip {y : Int} (h1 : 0 ≤ y) (h2 : y < 18446744073709551616) : Wd.unI 1 10 y = (Wd.flip y, 0) := by
  rw [unI_ok (by decide) (is10 h1 h2), if_neg (by decide), if_neg (by decide), if_pos rfl]

end Fl
end Go.Proofs.YtbghjlamedlchaaDoor

/- Floats cut to whole numbers, and whole numbers as floats: plain. -/
namespace Go.Proofs.YtbghjlamedlchaaDoor
namespace Fl
open Ieee
set_option linter.unusedVariables false

/-- -2^63 and 2^63 as floats -/
def cLo : Nat := 14114281232179134464
def cHi : Nat := 4890909195324358656
theorem rd_lo : double.read cLo = .number true 4503599627370496 11 := by decide +kernel
theorem rd_hi : double.read cHi = .number false 4503599627370496 11 := by decide +kernel

def loB (x : Int) : Bool := ordN x.toNat cLo == some .gt || ordN x.toNat cLo == some .eq
def hiB (x : Int) : Bool := ordN x.toNat cHi == some .lt
def toI (x : Int) : Int := match (double.read x.toNat).toInt .zero with | some n => n | none => 0
/-- a float rounded to 0, in 64 bits; 2^63 where it does not fit -/
def trunc (x : Int) : Int := if loB x && hiB x then toI x % 18446744073709551616 else 9223372036854775808

theorem cmp_lt {a b : Int} (h : compare a b = Ordering.lt) : a < b := by
  simp only [compare, compareOfLessAndEq] at h
  by_cases g : a < b
  · exact g
  · rw [if_neg g] at h; split at h <;> cases h
theorem cmp_ge {a b : Int} (h : compare a b = Ordering.gt ∨ compare a b = Ordering.eq) : b ≤ a := by
  simp only [compare, compareOfLessAndEq] at h
  by_cases g : a < b
  · rw [if_pos g] at h; rcases h with h | h <;> cases h
  · omega

theorem cut_zero (s : Bool) (n d : Nat) : Toward.zero.cut s n d = n / 2 ^ min d (n.log2 + 2) := by
  unfold Toward.cut
  simp only [Nat.one_shiftLeft]
  rfl
theorem cut_le (s : Bool) (n d : Nat) : Toward.zero.cut s n d ≤ n / 2 ^ d := by
  rw [cut_zero]
  by_cases h : d ≤ n.log2 + 2
  · rw [Nat.min_eq_left h]; exact Nat.le_refl _
  · rw [Nat.min_eq_right (by omega)]
    have p : n < 2 ^ (n.log2 + 2) := Nat.lt_of_lt_of_le Nat.lt_log2_self (Nat.pow_le_pow_right (by omega) (by omega))
    rw [Nat.div_eq_of_lt p]; exact Nat.zero_le _

/-- the number of whole units of m 2^i -/
theorem cut_bound (s : Bool) (m : Nat) (i : Int) (C : Nat) (h : m * 2 ^ (i - min i 11).toNat ≤ C * 2 ^ (11 - min i 11).toNat) : Toward.zero.cut s (m <<< i.toNat) (-i).toNat ≤ C * 2 ^ 11 := by
  rw [Nat.shiftLeft_eq]
  by_cases hi : 0 ≤ i
  · rw [show (-i).toNat = 0 by omega]
    refine Nat.le_trans (cut_le s _ 0) ?_
    rw [Nat.pow_zero, Nat.div_one]
    by_cases h11 : i ≤ 11
    · rw [show min i 11 = i by omega, show (i - i).toNat = 0 by omega, Nat.pow_zero, Nat.mul_one] at h
      have := Nat.mul_le_mul_right (2 ^ i.toNat) h
      rw [Nat.mul_assoc, ← Nat.pow_add, show (11 - i).toNat + i.toNat = 11 by omega] at this
      exact this
    · rw [show min i 11 = 11 by omega, show ((11 : Int) - 11).toNat = 0 by omega, Nat.pow_zero, Nat.mul_one] at h
      have := Nat.mul_le_mul_right (2 ^ 11) h
      rw [Nat.mul_assoc, ← Nat.pow_add, show (i - 11).toNat + 11 = i.toNat by omega] at this
      exact this
  · rw [show i.toNat = 0 by omega, Nat.pow_zero, Nat.mul_one]
    refine Nat.le_trans (cut_le s _ _) ?_
    rw [show min i 11 = i by omega, show (i - i).toNat = 0 by omega, Nat.pow_zero, Nat.mul_one, show (11 - i).toNat = 11 + (-i).toNat by omega, Nat.pow_add, ← Nat.mul_assoc] at h
    exact Nat.div_le_of_le_mul (by rw [Nat.mul_comm]; exact h)
theorem cut_bound_lt (s : Bool) (m : Nat) (i : Int) (C : Nat) (h : m * 2 ^ (i - min i 11).toNat < C * 2 ^ (11 - min i 11).toNat) : Toward.zero.cut s (m <<< i.toNat) (-i).toNat < C * 2 ^ 11 := by
  rw [Nat.shiftLeft_eq]
  by_cases hi : 0 ≤ i
  · rw [show (-i).toNat = 0 by omega]
    refine Nat.lt_of_le_of_lt (cut_le s _ 0) ?_
    rw [Nat.pow_zero, Nat.div_one]
    by_cases h11 : i ≤ 11
    · rw [show min i 11 = i by omega, show (i - i).toNat = 0 by omega, Nat.pow_zero, Nat.mul_one] at h
      have := Nat.mul_lt_mul_of_pos_right h (Nat.two_pow_pos i.toNat)
      rw [Nat.mul_assoc, ← Nat.pow_add, show (11 - i).toNat + i.toNat = 11 by omega] at this
      exact this
    · rw [show min i 11 = 11 by omega, show ((11 : Int) - 11).toNat = 0 by omega, Nat.pow_zero, Nat.mul_one] at h
      have := Nat.mul_lt_mul_of_pos_right h (Nat.two_pow_pos 11)
      rw [Nat.mul_assoc, ← Nat.pow_add, show (i - 11).toNat + 11 = i.toNat by omega] at this
      exact this
  · rw [show i.toNat = 0 by omega, Nat.pow_zero, Nat.mul_one]
    refine Nat.lt_of_le_of_lt (cut_le s _ _) ?_
    rw [show min i 11 = i by omega, show (i - i).toNat = 0 by omega, Nat.pow_zero, Nat.mul_one, show (11 - i).toNat = 11 + (-i).toNat by omega, Nat.pow_add, ← Nat.mul_assoc] at h
    exact Nat.div_lt_of_lt_mul (by rw [Nat.mul_comm]; exact h)

theorem toI_in {x : Int} (h1 : loB x = true) (h2 : hiB x = true) : (double.read x.toNat).toInt .zero = some (toI x) ∧ -9223372036854775808 ≤ toI x ∧ toI x ≤ 9223372036854775807 := by
  have lo : Datum.order (double.read x.toNat) (double.read cLo) = some .gt ∨ Datum.order (double.read x.toNat) (double.read cLo) = some .eq := by
    simpa [loB, ordN, Format.order] using h1
  have hi : Datum.order (double.read x.toNat) (double.read cHi) = some .lt := by
    simpa [hiB, ordN, Format.order] using h2
  unfold toI
  rw [rd_lo] at lo
  rw [rd_hi] at hi
  cases hd : double.read x.toNat with
  | nan s t => rw [hd] at hi; cases hi
  | infinity s =>
    rw [hd] at hi lo
    cases s
    · simp [Datum.order] at hi
    · simp [Datum.order] at lo
  | number s m i =>
    rw [hd] at hi lo
    have hz : (Datum.number s m i).toInt .zero = some (signed s (Toward.zero.cut s (m <<< i.toNat) (-i).toNat) 0) := rfl
    rw [hz]
    refine ⟨rfl, ?_⟩
    show -9223372036854775808 ≤ signed s _ 0 ∧ signed s _ 0 ≤ 9223372036854775807
    simp only [Datum.order, Option.some.injEq] at hi lo
    have hi' := cmp_lt hi
    have lo' := cmp_ge lo
    clear hi lo hz hd h1 h2
    unfold signed at *
    simp only [Nat.shiftLeft_eq, Nat.pow_zero, Nat.mul_one] at *
    cases s
    · simp only [Bool.false_eq_true, if_false] at *
      have := cut_bound_lt false m i 4503599627370496 (by omega)
      rw [Nat.shiftLeft_eq] at this
      omega
    · simp only [if_true] at *
      have := cut_bound true m i 4503599627370496 (by omega)
      rw [Nat.shiftLeft_eq] at this
      omega

/-- a whole number of at most 53 bits as a float: the number itself -/
theorem small_read {n : Nat} (h0 : n ≠ 0) (h : n < 9007199254740992) :
    double.nearest false n 0 < 9223372036854775808 ∧ double.read (double.nearest false n 0) = .number false (n * 2 ^ (52 - n.log2)) ((n.log2 : Int) - 52) ∧ 4503599627370496 ≤ n * 2 ^ (52 - n.log2) ∧ n * 2 ^ (52 - n.log2) < 9007199254740992 ∧ n.log2 ≤ 52 := by
  have hL : n.log2 < 53 := (Nat.log2_lt h0).2 (by simpa using h)
  have a1 : 2 ^ n.log2 ≤ n := Nat.log2_self_le h0
  have a2 : n < 2 ^ (n.log2 + 1) := Nat.lt_log2_self
  have q1 : 4503599627370496 ≤ n * 2 ^ (52 - n.log2) := by
    have := Nat.mul_le_mul_right (2 ^ (52 - n.log2)) a1
    rw [← Nat.pow_add, show n.log2 + (52 - n.log2) = 52 by omega] at this
    exact this
  have q2 : n * 2 ^ (52 - n.log2) < 9007199254740992 := by
    have := Nat.mul_lt_mul_of_pos_right a2 (Nat.two_pow_pos (52 - n.log2))
    rw [← Nat.pow_add, show n.log2 + 1 + (52 - n.log2) = 53 by omega] at this
    exact this
  have e : double.nearest false n 0 = (n.log2 + 1022) * 4503599627370496 + n * 2 ^ (52 - n.log2) := by
    unfold Format.nearest
    rw [if_neg h0]
    dsimp only
    rw [fb52, lp, bn, ir]
    have l : max (0 + (n.log2 : Int) - ((52 : Nat) : Int)) (-1074) = (n.log2 : Int) - 52 := by omega
    rw [l, show (0 - ((n.log2 : Int) - 52)).toNat = 52 - n.log2 by omega, show ((n.log2 : Int) - 52 - 0).toNat = 0 by omega, show ((n.log2 : Int) - 52 - -1074).toNat = n.log2 + 1022 by omega, Nat.shiftLeft_eq]
    have c : Toward.even.cut false (n * 2 ^ (52 - n.log2)) 0 = n * 2 ^ (52 - n.log2) := by
      unfold Toward.cut
      simp only [Nat.zero_min, Nat.shiftLeft_zero, Nat.div_one, Nat.mod_one]
      rfl
    rw [c, Nat.min_eq_left (by omega)]
    rfl
  refine ⟨by omega, ?_, q1, q2, by omega⟩
  rw [e, read_is]
  generalize n * 2 ^ (52 - n.log2) = q at *
  rw [show ((n.log2 + 1022) * 4503599627370496 + q) / 9223372036854775808 % 2 = 0 by omega, show ((n.log2 + 1022) * 4503599627370496 + q) % 9223372036854775808 = (n.log2 + 1022) * 4503599627370496 + q by omega]
  unfold rdOf
  rw [if_neg (by omega), if_pos (by omega), show ((n.log2 + 1022) * 4503599627370496 + q) % 4503599627370496 = q - 4503599627370496 by omega, show ((n.log2 + 1022) * 4503599627370496 + q) / 4503599627370496 = n.log2 + 1023 by omega]
  rw [show 4503599627370496 + (q - 4503599627370496) = q by omega, show (-1074 : Int) + ((n.log2 + 1023 - 1 : Nat) : Int) = (n.log2 : Int) - 52 by omega]
  rfl

theorem cmp_of_lt {a b : Int} (h : a < b) : compare a b = Ordering.lt := by simp [compare, compareOfLessAndEq, h]
theorem cmp_of_gt {a b : Int} (h : b < a) : compare a b = Ordering.gt := by
  have h1 : ¬ a < b := by omega
  have h2 : ¬ a = b := by omega
  simp [compare, compareOfLessAndEq, h1, h2]

theorem small_back {n : Int} (h0 : 0 ≤ n) (h : n < 9007199254740992) :
    loB (floatOfInt .f64 n) = true ∧ hiB (floatOfInt .f64 n) = true ∧ toI (floatOfInt .f64 n) = n := by
  by_cases hz : n = 0
  · subst hz; decide +kernel
  · have hf : floatOfInt .f64 n = double.nearest false n.toNat 0 := by
      show double.nearest (decide (n < 0)) n.natAbs 0 = _
      rw [decide_eq_false (by omega), show n.natAbs = n.toNat by omega]
    obtain ⟨r1, r2, q1, q2, hL⟩ := small_read (n := n.toNat) (by omega) (by omega)
    have e0 : n.toNat = n.toNat := rfl
    generalize hm : n.toNat = m at *
    have hb : double.read ((floatOfInt .f64 n : Nat) : Int).toNat = .number false (m * 2 ^ (52 - m.log2)) ((m.log2 : Int) - 52) := by rw [Int.toNat_natCast, hf, r2]
    refine ⟨?_, ?_, ?_⟩
    · unfold loB ordN Format.order
      rw [hb, rd_lo]
      simp only [Datum.order]
      rw [cmp_of_gt]
      · rfl
      · unfold signed
        simp only [if_true, Bool.false_eq_true, if_false, Nat.shiftLeft_eq]
        have : 0 < 4503599627370496 * 2 ^ (11 - min ((m.log2 : Int) - 52) 11).toNat := Nat.mul_pos (by omega) (Nat.two_pow_pos _)
        omega
    · unfold hiB ordN Format.order
      rw [hb, rd_hi]
      simp only [Datum.order]
      rw [cmp_of_lt]
      · rfl
      · unfold signed
        simp only [Bool.false_eq_true, if_false, Nat.shiftLeft_eq]
        rw [show min ((m.log2 : Int) - 52) 11 = (m.log2 : Int) - 52 by omega, show ((m.log2 : Int) - 52 - ((m.log2 : Int) - 52)).toNat = 0 by omega, Nat.pow_zero, Nat.mul_one]
        have : 2 ^ 11 ≤ 2 ^ (11 - ((m.log2 : Int) - 52)).toNat := Nat.pow_le_pow_right (by omega) (by omega)
        omega
    · unfold toI
      rw [hb]
      show signed false (Toward.zero.cut false ((m * 2 ^ (52 - m.log2)) <<< ((m.log2 : Int) - 52).toNat) (-((m.log2 : Int) - 52)).toNat) 0 = n
      rw [show ((m.log2 : Int) - 52).toNat = 0 by omega, show (-((m.log2 : Int) - 52)).toNat = 52 - m.log2 by omega, Nat.shiftLeft_zero, cut_zero]
      have l52 : 52 ≤ (m * 2 ^ (52 - m.log2)).log2 := (Nat.le_log2 (by omega)).2 (by simpa using q1)
      rw [Nat.min_eq_left (by omega), Nat.mul_div_cancel _ (Nat.two_pow_pos _)]
      unfold signed
      simp only [Bool.false_eq_true, if_false, Nat.shiftLeft_zero]
      omega

end Fl
end Go.Proofs.YtbghjlamedlchaaDoor

/- Conv: its contract. -/
namespace Go.Proofs.YtbghjlamedlchaaDoor
open Go.RowKit
set_option linter.unusedVariables false

namespace Fl
/-- a whole number as a float -/
def nr (k x : Int) : Int := (floatOfInt .f64 (if Wd.sgnB k then Wd.sg x else x) : Nat)
def convA (k t x : Int) : Int × Int :=
  if (Wd.numB k && Wd.numB t) = false then (0, 10) else if Wd.isB k x = false then (0, 11) else if k = 10 ∧ t = 10 then (x, 0)
  else if k = 10 then (Wd.canon t (trunc x), 0) else if t = 10 then (nr k x, 0) else (Wd.canon t x, 0)
end Fl

theorem conv_in {x : Int} (h1 : Fl.loB x = true) (h2 : Fl.hiB x = true) (w : World) : (convert 87 2 (.float .f64 x.toNat)).run Tryd.prog w = .ok (.int .i64 (Fl.toI x)) w := by
  obtain ⟨a, b, c⟩ := Fl.toI_in h1 h2
  refine run_convert_float_int w 87 2 .f64 .i64 x.toNat (Fl.toI x) (by rw [Tryd.underlying87]; rfl) Tryd.underlying2 ?_
  unfold floatToIntVal
  have e : (FloatKind.decode .f64 x.toNat).toInt .zero = some (Fl.toI x) := a
  rw [e]
  have d : IntKind.i64.min ≤ Fl.toI x ∧ Fl.toI x ≤ IntKind.i64.max := ⟨b, c⟩
  simp only [if_pos d]

set_option maxHeartbeats 400000 in
theorem truncate_any (x : Int) (w : World) :
    Calls Tryd.prog 86 #[.int .u64 x] w fun e w' => e = .returned (.int .u64 (Fl.trunc x)) ∧ w' = w := by
  have f1 := frombits
  have Hc : Hid (∀ (h1 : Fl.loB x = true) (h2 : Fl.hiB x = true) (w : World), (convert 87 2 (.float .f64 x.toNat)).run Tryd.prog w = .ok (.int .i64 (Fl.toI x)) w) := fun h1 h2 w => conv_in h1 h2 w
  have Hl : Hid (Fl.loB x = (FloatKind.f64.format.order x.toNat 14114281232179134464 == some .gt || FloatKind.f64.format.order x.toNat 14114281232179134464 == some .eq)) := rfl
  have Hh : Hid (Fl.hiB x = (FloatKind.f64.format.order x.toNat 4890909195324358656 == some .lt)) := rfl
  cases o1 : FloatKind.f64.format.order x.toNat 14114281232179134464 with
  | none =>
    have Ht : Hid (Fl.trunc x = 9223372036854775808) := by show _ = _; unfold Fl.trunc; rw [Hl.out, o1]; rfl
    go_enter Tryd.func86, Tryd.ntmps86
    go_wp2
    go_ret
    exact ⟨ret_u64 Ht.out.symm, rfl⟩
  | some p =>
    cases o2 : FloatKind.f64.format.order x.toNat 4890909195324358656 with
    | none =>
      have Ht : Hid (Fl.trunc x = 9223372036854775808) := by show _ = _; unfold Fl.trunc; rw [Hl.out, Hh.out, o1, o2]; cases p <;> rfl
      cases p
      all_goals
        go_enter Tryd.func86, Tryd.ntmps86
        go_wp2
        go_ret
        exact ⟨ret_u64 Ht.out.symm, rfl⟩
    | some q =>
      cases p <;> cases q
      all_goals first
        | (have h1 : Fl.loB x = true := by rw [Hl.out, o1]; rfl
           have h2 : Fl.hiB x = true := by rw [Hh.out, o2]; rfl
           have Ht : Hid (Fl.trunc x = Fl.toI x % 18446744073709551616) := by show _ = _; unfold Fl.trunc; rw [h1, h2]; rfl
           have hc := Hc.out h1 h2
           clear h1 h2
           go_enter Tryd.func86, Tryd.ntmps86
           go_wp2
           go_ret
           exact ⟨ret_u64 (by rw [Ht.out, IntKind.wrap_u64]), rfl⟩)
        | (have Ht : Hid (Fl.trunc x = 9223372036854775808) := by show _ = _; unfold Fl.trunc; rw [Hl.out, Hh.out, o1, o2]; rfl
           go_enter Tryd.func86, Tryd.ntmps86
           go_wp2
           go_ret
           exact ⟨ret_u64 Ht.out.symm, rfl⟩)

theorem trunc_rng (x : Int) : 0 ≤ Fl.trunc x ∧ Fl.trunc x < 18446744073709551616 := by unfold Fl.trunc; split <;> omega

set_option maxHeartbeats 400000 in
theorem nearest_any (k x : Int) (w : World) (hx : 0 ≤ x) (hx2 : x < 18446744073709551616) :
    Calls Tryd.prog 87 #[.int .i64 k, .int .u64 x] w fun e w' => e = .returned (.int .u64 (Fl.nr k x)) ∧ w' = w := by
  have f2 := tobits
  cases hs : Wd.sgnB k
  · have Hn : Hid (Fl.nr k x = (floatOfInt .f64 x : Nat)) := by show _ = _; unfold Fl.nr; rw [hs]; rfl
    go_enter Tryd.func87, Tryd.ntmps87
    go_wp2_with (go_at_call 80; refine (signed_any _ _).mono ?_; rintro e w' ⟨rfl, rfl⟩)
    go_ret
    exact ⟨ret_u64 Hn.out.symm, rfl⟩
  · have Hn : Hid (Fl.nr k x = (floatOfInt .f64 (wrap64 x) : Nat)) := by show _ = _; unfold Fl.nr; rw [hs, sg_wrap]; rfl
    go_enter Tryd.func87, Tryd.ntmps87
    go_wp2_with (go_at_call 80; refine (signed_any _ _).mono ?_; rintro e w' ⟨rfl, rfl⟩)
    go_ret
    exact ⟨ret_u64 Hn.out.symm, rfl⟩

set_option maxHeartbeats 400000 in
theorem conv_kind (k t x : Int) (w : World) (h : (Wd.numB k && Wd.numB t) = false) :
    Calls Tryd.prog 73 #[.int .i64 k, .int .i64 t, .int .u64 x] w fun e w' => e = .returned (.tuple #[.int .u64 0, .int .i64 10]) ∧ w' = w := by
  have h' : Wd.numB k = false ∨ Wd.numB k = true ∧ Wd.numB t = false := by revert h; cases Wd.numB k <;> cases Wd.numB t <;> simp
  clear h
  rcases h' with h | ⟨h, g⟩
  all_goals
    go_enter Tryd.func73, Tryd.ntmps73
    go_wp2_with (go_at_call 85; refine (number_any _ _).mono ?_; rintro e w' ⟨rfl, rfl⟩)
    go_ret2
    exact ⟨rfl, rfl⟩

set_option maxHeartbeats 400000 in
theorem conv_form (k t x : Int) (w : World) (hx : 0 ≤ x) (hx2 : x < 18446744073709551616) (h : Wd.numB k = true) (g : Wd.numB t = true) (hi : Wd.isB k x = false) :
    Calls Tryd.prog 73 #[.int .i64 k, .int .i64 t, .int .u64 x] w fun e w' => e = .returned (.tuple #[.int .u64 0, .int .i64 11]) ∧ w' = w := by
  go_enter Tryd.func73, Tryd.ntmps73
  go_wp2_with (first | (go_at_call 85; refine (number_any _ _).mono ?_; rintro e w' ⟨rfl, rfl⟩) | (go_at_call 78; refine (is_any _ _ _ (by assumption) (by assumption)).mono ?_; rintro e w' ⟨rfl, rfl⟩))
  go_ret2
  exact ⟨rfl, rfl⟩

set_option maxHeartbeats 1000000 in
theorem conv_ok (k t x : Int) (w : World) (hx : 0 ≤ x) (hx2 : x < 18446744073709551616) (h : Wd.numB k = true) (g : Wd.numB t = true) (hi : Wd.isB k x = true) :
    Calls Tryd.prog 73 #[.int .i64 k, .int .i64 t, .int .u64 x] w fun e w' => e = .returned (.tuple #[.int .u64 (if k = 10 ∧ t = 10 then x else if k = 10 then Wd.canon t (Fl.trunc x) else if t = 10 then Fl.nr k x else Wd.canon t x), .int .i64 0]) ∧ w' = w := by
  have tr1 := (trunc_rng x).1
  have tr2 := (trunc_rng x).2
  by_cases hk : k = 10
  · by_cases ht : t = 10
    · subst hk ht
      rw [if_pos ⟨rfl, rfl⟩]
      go_enter Tryd.func73, Tryd.ntmps73
      go_wp2_with (first | (go_at_call 85; refine (number_any _ _).mono ?_; rintro e w' ⟨rfl, rfl⟩) | (go_at_call 78; refine (is_any _ _ _ (by assumption) (by assumption)).mono ?_; rintro e w' ⟨rfl, rfl⟩))
      go_ret2
      exact ⟨rfl, rfl⟩
    · subst hk
      rw [if_neg (fun h => ht h.2), if_pos rfl]
      have ht' : (t == 10) = false := by simpa using ht
      clear ht
      go_enter Tryd.func73, Tryd.ntmps73
      go_wp2_with (first | (go_at_call 85; refine (number_any _ _).mono ?_; rintro e w' ⟨rfl, rfl⟩) | (go_at_call 78; refine (is_any _ _ _ (by assumption) (by assumption)).mono ?_; rintro e w' ⟨rfl, rfl⟩) | (go_at_call 86; refine (truncate_any _ _).mono ?_; rintro e w' ⟨rfl, rfl⟩) | (go_at_call 71; refine (canon_any _ _ _ (by assumption) (by assumption)).mono ?_; rintro e w' ⟨rfl, rfl⟩))
      go_ret2
      exact ⟨rfl, rfl⟩
  · rw [if_neg (fun h => hk h.1), if_neg hk]
    have hk' : (k == 10) = false := by simpa using hk
    clear hk
    by_cases ht : t = 10
    · subst ht
      rw [if_pos rfl]
      go_enter Tryd.func73, Tryd.ntmps73
      go_wp2_with (first | (go_at_call 85; refine (number_any _ _).mono ?_; rintro e w' ⟨rfl, rfl⟩) | (go_at_call 78; refine (is_any _ _ _ (by assumption) (by assumption)).mono ?_; rintro e w' ⟨rfl, rfl⟩) | (go_at_call 87; refine (nearest_any _ _ _ (by assumption) (by assumption)).mono ?_; rintro e w' ⟨rfl, rfl⟩))
      go_ret2
      exact ⟨rfl, rfl⟩
    · rw [if_neg ht]
      have ht' : (t == 10) = false := by simpa using ht
      clear ht
      go_enter Tryd.func73, Tryd.ntmps73
      go_wp2_with (first | (go_at_call 85; refine (number_any _ _).mono ?_; rintro e w' ⟨rfl, rfl⟩) | (go_at_call 78; refine (is_any _ _ _ (by assumption) (by assumption)).mono ?_; rintro e w' ⟨rfl, rfl⟩) | (go_at_call 71; refine (canon_any _ _ _ (by assumption) (by assumption)).mono ?_; rintro e w' ⟨rfl, rfl⟩))
      go_ret2
      exact ⟨rfl, rfl⟩

theorem conv_any (k t x : Int) (w : World) (hx : 0 ≤ x) (hx2 : x < 18446744073709551616) :
    Calls Tryd.prog 73 #[.int .i64 k, .int .i64 t, .int .u64 x] w fun e w' => e = .returned (.tuple #[.int .u64 (Fl.convA k t x).1, .int .i64 (Fl.convA k t x).2]) ∧ w' = w := by
  cases hn : (Wd.numB k && Wd.numB t)
  · have e : Fl.convA k t x = (0, 10) := by unfold Fl.convA; rw [if_pos hn]
    rw [e]; exact conv_kind k t x w hn
  · obtain ⟨h, g⟩ : Wd.numB k = true ∧ Wd.numB t = true := by simpa using hn
    cases hi : Wd.isB k x
    · have e : Fl.convA k t x = (0, 11) := by unfold Fl.convA; rw [if_neg (by simp [hn]), if_pos hi]
      rw [e]; exact conv_form k t x w hx hx2 h g hi
    · have e : Fl.convA k t x = (if k = 10 ∧ t = 10 then x else if k = 10 then Wd.canon t (Fl.trunc x) else if t = 10 then Fl.nr k x else Wd.canon t x, 0) := by
        unfold Fl.convA; rw [if_neg (by simp [hn]), if_neg (by simp [hi])]
        repeat' split
        all_goals rfl
      rw [e]; exact conv_ok k t x w hx hx2 h g hi

end Go.Proofs.YtbghjlamedlchaaDoor
