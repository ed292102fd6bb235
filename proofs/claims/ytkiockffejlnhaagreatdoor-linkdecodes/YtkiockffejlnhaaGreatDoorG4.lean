/- Contracts and plain facts that the walks share, text by text: Bins, BinI, Bin, Un, FPlain, FWalk. -/
import Derived.Test.YtkiockffejlnhaaGreatDoorG3
import Derived.Test.YtkiockffejlnhaaGreatDoorG1
import Derived.WalkLawsBesides
import Derived.Laws.FloatArith
import Derived.Deep.Draws
/- binUnsigned, binSigned: contracts. -/
namespace Go.Proofs.YtkiockffejlnhaaGreatDoor
open Go.RowKit
set_option linter.unusedVariables false
theorem ops16 {op : Int} (h1 : 1 ≤ op) (h2 : op ≤ 16) : op = 1 ∨ op = 2 ∨ op = 3 ∨ op = 4 ∨ op = 5 ∨ op = 6 ∨ op = 7 ∨ op = 8 ∨ op = 9 ∨ op = 10 ∨ op = 11 ∨ op = 12 ∨ op = 13 ∨ op = 14 ∨ op = 15 ∨ op = 16 := by omega
theorem wrap_rng (x : Int) : 0 ≤ IntKind.u64.wrap x ∧ IntKind.u64.wrap x < 18446744073709551616 := by rw [IntKind.wrap_u64]; omega
theorem land_lt {a b : Int} (ha : 0 ≤ a) (ha2 : a < 18446744073709551616) (hb : 0 ≤ b) (hb2 : b < 18446744073709551616) : ((a.toNat &&& b.toNat : Nat) : Int) < 18446744073709551616 := by
  have := Nat.and_lt_two_pow (n := 64) a.toNat (y := b.toNat) (by omega); omega
theorem lor_lt {a b : Int} (ha : 0 ≤ a) (ha2 : a < 18446744073709551616) (hb : 0 ≤ b) (hb2 : b < 18446744073709551616) : ((a.toNat ||| b.toNat : Nat) : Int) < 18446744073709551616 := by
  have := Nat.or_lt_two_pow (n := 64) (x := a.toNat) (y := b.toNat) (by omega) (by omega); omega
theorem lxor_lt {a b : Int} (ha : 0 ≤ a) (ha2 : a < 18446744073709551616) (hb : 0 ≤ b) (hb2 : b < 18446744073709551616) : ((a.toNat ^^^ b.toNat : Nat) : Int) < 18446744073709551616 := by
  have := Nat.xor_lt_two_pow (n := 64) (x := a.toNat) (y := b.toNat) (by omega) (by omega); omega
theorem div_rng {x y : Int} (hx : 0 ≤ x) (hx2 : x < 18446744073709551616) (hy : 0 < y) : 0 ≤ x / y ∧ x / y < 18446744073709551616 :=
  ⟨Int.ediv_nonneg hx (by omega), Int.lt_of_le_of_lt (Int.ediv_le_self y hx) hx2⟩
theorem mod_rng {x y : Int} (hx : 0 ≤ x) (hy2 : y < 18446744073709551616) (hy : 0 < y) : 0 ≤ x % y ∧ x % y < 18446744073709551616 :=
  ⟨Int.emod_nonneg x (by omega), Int.lt_trans (Int.emod_lt_of_pos x hy) hy2⟩
theorem shr_rng {x : Int} (n : Nat) (hx : 0 ≤ x) (hx2 : x < 18446744073709551616) : 0 ≤ x / 2 ^ n ∧ x / 2 ^ n < 18446744073709551616 :=
  div_rng hx hx2 (Int.pow_pos (by omega))
set_option maxHeartbeats 1000000 in
theorem binU_any (op k x y : Int) (w : World) (hx : 0 ≤ x) (hx2 : x < 18446744073709551616) (hy : 0 ≤ y) (hy2 : y < 18446744073709551616) (h1 : 1 ≤ op) (h2 : op ≤ 16) (hz : op = 4 ∨ op = 5 → 0 < y) :
    Calls Tryz.prog 136 #[.int .i64 op, .int .i64 k, .int .u64 x, .int .u64 y] w fun e w' => e = .returned (.int .u64 (Wd.bu op k x y)) ∧ w' = w := by
  have Hz : Hid (op = 4 ∨ op = 5 → 0 < y) := hz
  clear hz
  rcases ops16 h1 h2 with h | h | h | h | h | h | h | h | h | h | h | h | h | h | h | h
  all_goals
    subst h
    first | have hy0 : 0 < y := Hz.out (by decide) | skip
    clear Hz h1 h2
    go_enter Tryz.func136, Tryz.ntmps136
    go_wp2_with (first | (go_at_call 145; go_in) | (go_at_call 151; refine (compareU_any _ _ _ _).mono ?_; rintro e w' ⟨rfl, rfl⟩))
    first
      | (go_ret; exact ⟨rfl, rfl⟩)
      | (refine (canon_any _ _ _ ?_ ?_).mono ?_
         · first | exact (wrap_rng _).1 | exact (div_rng hx hx2 hy0).1 | exact (mod_rng hx hy2 hy0).1 | exact (shr_rng _ hx hx2).1 | (simp only [Go.u64_and _ _ hx hx2 hy hy2, Go.u64_or _ _ hx hx2 hy hy2, Go.u64_xor _ _ hx hx2 hy hy2]; omega)
         · first | exact (wrap_rng _).2 | exact (div_rng hx hx2 hy0).2 | exact (mod_rng hx hy2 hy0).2 | exact (shr_rng _ hx hx2).2 | (rw [Go.u64_and _ _ hx hx2 hy hy2]; exact land_lt hx hx2 hy hy2) | (rw [Go.u64_or _ _ hx hx2 hy hy2]; exact lor_lt hx hx2 hy hy2) | (rw [Go.u64_xor _ _ hx hx2 hy hy2]; exact lxor_lt hx hx2 hy hy2)
         · rintro e w' ⟨rfl, rfl⟩
           go_wp2
           go_ret
           refine ⟨ret_u64 ?_, rfl⟩
           simp only [Wd.bu1, Wd.bu2, Wd.bu3, Wd.bu4, Wd.bu5, Wd.bu6, Wd.bu7, Wd.bu8, Wd.bu9, Wd.bu10, Wd.canon_wrap, Go.u64_and _ _ hx hx2 hy hy2, Go.u64_or _ _ hx hx2 hy hy2, Go.u64_xor _ _ hx hx2 hy hy2])
theorem sg_wrap (x : Int) : wrap64 x = Wd.sg x := by unfold wrap64 Wd.sg; rfl
theorem sg_ne {y : Int} (h : 0 < y) (h2 : y < 18446744073709551616) : (wrap64 y == 0) = false := by rw [beq_eq_false_iff_ne]; unfold wrap64; omega
theorem canon_sg (k x : Int) : Wd.canon k (Wd.sg x) = Wd.canon k x := by
  rw [← Wd.canon_mod k x, ← Wd.canon_mod k (Wd.sg x)]; congr 1; unfold Wd.sg; omega
set_option maxHeartbeats 1000000 in
theorem binS_any (op k x y : Int) (w : World) (hx : 0 ≤ x) (hx2 : x < 18446744073709551616) (hy : 0 ≤ y) (hy2 : y < 18446744073709551616) (h1 : 1 ≤ op) (h2 : op ≤ 16) (hz : op = 4 ∨ op = 5 → 0 < y) :
    Calls Tryz.prog 135 #[.int .i64 op, .int .i64 k, .int .u64 x, .int .u64 y] w fun e w' => e = .returned (.int .u64 (Wd.bs op k x y)) ∧ w' = w := by
  have Hz : Hid (op = 4 ∨ op = 5 → 0 < y) := hz
  clear hz
  rcases ops16 h1 h2 with h | h | h | h | h | h | h | h | h | h | h | h | h | h | h | h
  all_goals
    subst h
    first | (have hy0 : 0 < y := Hz.out (by decide); have hy3 : ¬ wrap64 y = 0 := by have := sg_ne hy0 hy2; simpa using this) | skip
    clear Hz h1 h2
    go_enter Tryz.func135, Tryz.ntmps135
    go_wp2_with (first | (go_at_call 145; go_in) | (go_at_call 150; refine (compareI_any _ _ _ _).mono ?_; rintro e w' ⟨rfl, rfl⟩) | (go_at_call 136; refine (binU_any _ _ _ _ _ (by assumption) (by assumption) (by assumption) (by assumption) (by decide) (by decide) (by intro h; simp at h)).mono ?_; rintro e w' ⟨rfl, rfl⟩))
    first
      | (go_ret; refine ⟨ret_u64 ?_, rfl⟩; first | exact (Wd.bsu _ _ _ _ (by decide) (by decide) (by decide) (by decide)).symm | (rw [Wd.bsc _ _ _ _ (by decide)]; simp only [sg_wrap]) | (rw [Wd.bs10, IntKind.wrap_u64, sg_wrap]))
      | (refine (canon_any _ _ _ (wrap_rng _).1 (wrap_rng _).2).mono ?_
         rintro e w' ⟨rfl, rfl⟩
         go_wp2
         go_ret
         refine ⟨ret_u64 ?_, rfl⟩
         simp only [Wd.bs4, Wd.bs5, Wd.canon_wrap, canon_sg, sg_wrap])
end Go.Proofs.YtkiockffejlnhaaGreatDoor

/- Bin of kinds that are no floats: its contract. -/
namespace Go.Proofs.YtkiockffejlnhaaGreatDoor
open Go.RowKit
set_option linter.unusedVariables false
theorem ret_bin {a b c d : Int} (h : (c, d) = (a, b)) : Ending.returned (.tuple #[.int .u64 a, .int .i64 b]) = .returned (.tuple #[.int .u64 c, .int .i64 d]) := by cases h; rfl
theorem opcases (op : Int) : op = 9 ∨ op = 10 ∨ op = 4 ∨ op = 5 ∨ ((op == 9) = false ∧ (op == 10) = false ∧ (op == 4) = false ∧ (op == 5) = false) := by
  simp only [beq_eq_false_iff_ne]; omega
set_option maxHeartbeats 1000000 in
theorem binI_kind (op k x y : Int) (w : World) (hh : Wd.hasBinB op k = false) :
    Calls Tryz.prog 111 #[.int .i64 op, .int .i64 k, .int .u64 x, .int .u64 y] w fun e w' => e = .returned (.tuple #[.int .u64 0, .int .i64 10]) ∧ w' = w := by
  go_enter Tryz.func111, Tryz.ntmps111
  go_wp2_with (go_at_call 131; refine (hasBin_any _ _ _).mono ?_; rintro e w' ⟨rfl, rfl⟩)
  go_ret2
  exact ⟨rfl, rfl⟩
set_option maxHeartbeats 2000000 in
theorem binI_form (op k x y : Int) (w : World) (hx : 0 ≤ x) (hx2 : x < 18446744073709551616) (hy : 0 ≤ y) (hy2 : y < 18446744073709551616)
    (hh : Wd.hasBinB op k = true) (hf : Wd.isB k x = false ∨ Wd.isB (if Wd.shB op then 9 else k) y = false) :
    Calls Tryz.prog 111 #[.int .i64 op, .int .i64 k, .int .u64 x, .int .u64 y] w fun e w' => e = .returned (.tuple #[.int .u64 0, .int .i64 11]) ∧ w' = w := by
  cases hix : Wd.isB k x
  · clear hf
    rcases opcases op with h | h | h | h | ⟨h9, h10, h4, h5⟩
    all_goals
      first | subst h | skip
      go_enter Tryz.func111, Tryz.ntmps111
      go_wp2_with (first | (go_at_call 131; refine (hasBin_any _ _ _).mono ?_; rintro e w' ⟨rfl, rfl⟩) | (go_at_call 132; refine (is_any _ _ _ (by assumption) (by assumption)).mono ?_; rintro e w' ⟨rfl, rfl⟩))
      go_ret2
      exact ⟨rfl, rfl⟩
  · have Hf : Hid (Wd.isB (if Wd.shB op then 9 else k) y = false) := by rcases hf with h | h; { rw [hix] at h; cases h }; exact h
    clear hf
    rcases opcases op with h | h | h | h | ⟨h9, h10, h4, h5⟩
    all_goals
      first | subst h | skip
      first
        | have hf : Wd.isB 9 y = false := Hf.out
        | have hf : Wd.isB k y = false := Hf.out
        | have hf : Wd.isB k y = false := by have := Hf.out; unfold Wd.shB at this; rw [h9, h10] at this; exact this
      clear Hf
      go_enter Tryz.func111, Tryz.ntmps111
      go_wp2_with (first | (go_at_call 131; refine (hasBin_any _ _ _).mono ?_; rintro e w' ⟨rfl, rfl⟩) | (go_at_call 132; refine (is_any _ _ _ (by assumption) (by assumption)).mono ?_; rintro e w' ⟨rfl, rfl⟩))
      go_ret2
      exact ⟨rfl, rfl⟩
set_option maxHeartbeats 2000000 in
theorem binI_zero (op k x : Int) (w : World) (hx : 0 ≤ x) (hx2 : x < 18446744073709551616) (ho : op = 4 ∨ op = 5) (hk : (k == 10) = false)
    (hh : Wd.hasBinB op k = true) (hix : Wd.isB k x = true) (hiy : Wd.isB k 0 = true) :
    Calls Tryz.prog 111 #[.int .i64 op, .int .i64 k, .int .u64 x, .int .u64 0] w fun e w' => e = .returned (.tuple #[.int .u64 0, .int .i64 12]) ∧ w' = w := by
  rcases ho with h | h
  all_goals
    subst h
    go_enter Tryz.func111, Tryz.ntmps111
    go_wp2_with (first | (go_at_call 131; refine (hasBin_any _ _ _).mono ?_; rintro e w' ⟨rfl, rfl⟩) | (go_at_call 132; refine (is_any _ _ _ (by first | assumption | decide) (by first | assumption | decide)).mono ?_; rintro e w' ⟨rfl, rfl⟩))
    go_ret2
    exact ⟨rfl, rfl⟩
set_option maxHeartbeats 2000000 in
theorem binI_ok (op k x y : Int) (w : World) (hx : 0 ≤ x) (hx2 : x < 18446744073709551616) (hy : 0 ≤ y) (hy2 : y < 18446744073709551616) (hk : (k == 10) = false)
    (hh : Wd.hasBinB op k = true) (hix : Wd.isB k x = true) (hf : Wd.isB (if Wd.shB op then 9 else k) y = true) (hz : op = 4 ∨ op = 5 → 0 < y) :
    Calls Tryz.prog 111 #[.int .i64 op, .int .i64 k, .int .u64 x, .int .u64 y] w fun e w' => e = .returned (.tuple #[.int .u64 (if Wd.sgnB k then Wd.bs op k x y else Wd.bu op k x y), .int .i64 0]) ∧ w' = w := by
  have Hz : Hid (op = 4 ∨ op = 5 → 0 < y) := hz
  obtain ⟨ho1, ho2⟩ := Wd.hasBin_ops hh
  have hfc : (op = 9 ∨ op = 10) ∧ Wd.isB 9 y = true ∨ ((op == 9) = false ∧ (op == 10) = false) ∧ Wd.isB k y = true := by
    by_cases h : op = 9 ∨ op = 10
    · left; refine ⟨h, ?_⟩; have e : Wd.shB op = true := by rcases h with rfl | rfl <;> rfl
      rw [e] at hf; exact hf
    · right; have e : (op == 9) = false ∧ (op == 10) = false := by simp only [beq_eq_false_iff_ne]; omega
      refine ⟨e, ?_⟩; unfold Wd.shB at hf; rw [e.1, e.2] at hf; exact hf
  clear hf
  have hyc : y = 0 ∧ (op == 4) = false ∧ (op == 5) = false ∨ (y == 0) = false := by
    by_cases h : y = 0
    · left; refine ⟨h, ?_⟩; simp only [beq_eq_false_iff_ne]; constructor <;> (intro e; have := hz (by omega); omega)
    · right; simpa using h
  clear hz
  cases hs : Wd.sgnB k
  all_goals
    rcases hyc with ⟨rfl, h4, h5⟩ | hyc
    all_goals
      rcases hfc with ⟨rfl | rfl, hf⟩ | ⟨⟨h9, h10⟩, hf⟩
      all_goals
        go_enter Tryz.func111, Tryz.ntmps111
        go_wp2_with (first | (go_at_call 131; refine (hasBin_any _ _ _).mono ?_; rintro e w' ⟨rfl, rfl⟩) | (go_at_call 132; refine (is_any _ _ _ (by first | assumption | decide) (by first | assumption | decide)).mono ?_; rintro e w' ⟨rfl, rfl⟩) | (go_at_call 134; refine (signed_any _ _).mono ?_; rintro e w' ⟨rfl, rfl⟩) | (go_at_call 135; refine (binS_any _ _ _ _ _ (by assumption) (by assumption) (by first | assumption | decide) (by first | assumption | decide) (by first | assumption | decide) (by first | assumption | decide) Hz.out).mono ?_; rintro e w' ⟨rfl, rfl⟩) | (go_at_call 136; refine (binU_any _ _ _ _ _ (by assumption) (by assumption) (by first | assumption | decide) (by first | assumption | decide) (by first | assumption | decide) (by first | assumption | decide) Hz.out).mono ?_; rintro e w' ⟨rfl, rfl⟩))
        all_goals
          go_ret2
          exact ⟨ret_bin rfl, rfl⟩
theorem binI_any (op k x y : Int) (w : World) (hx : 0 ≤ x) (hx2 : x < 18446744073709551616) (hy : 0 ≤ y) (hy2 : y < 18446744073709551616) (hk : k ≠ 10) :
    Calls Tryz.prog 111 #[.int .i64 op, .int .i64 k, .int .u64 x, .int .u64 y] w fun e w' => e = .returned (.tuple #[.int .u64 (Wd.binI op k x y).1, .int .i64 (Wd.binI op k x y).2]) ∧ w' = w := by
  have hk' : (k == 10) = false := by simpa using hk
  unfold Wd.binI
  cases hh : Wd.hasBinB op k
  · rw [if_pos rfl]; exact binI_kind op k x y w hh
  · rw [if_neg (by simp)]
    by_cases hf : Wd.isB k x = false ∨ Wd.isB (if Wd.shB op then 9 else k) y = false
    · rw [if_pos hf]; exact binI_form op k x y w hx hx2 hy hy2 hh hf
    · rw [if_neg hf]
      have hix : Wd.isB k x = true := by cases h : Wd.isB k x; { exact absurd (.inl h) hf }; rfl
      have hiy : Wd.isB (if Wd.shB op then 9 else k) y = true := by cases h : Wd.isB (if Wd.shB op then 9 else k) y; { exact absurd (.inr h) hf }; rfl
      by_cases hz : y = 0 ∧ (op = 4 ∨ op = 5)
      · rw [if_pos hz]
        obtain ⟨rfl, ho⟩ := hz
        have hs : Wd.shB op = false := by rcases ho with rfl | rfl <;> rfl
        rw [hs] at hiy
        exact binI_zero op k x w hx hx2 ho hk' hh hix hiy
      · rw [if_neg hz]
        refine (binI_ok op k x y w hx hx2 hy hy2 hk' hh hix hiy (by intro h; have : y ≠ 0 := fun e => hz ⟨e, h⟩; omega)).mono ?_
        rintro e w' ⟨rfl, rfl⟩
        refine ⟨?_, rfl⟩
        split <;> rfl
end Go.Proofs.YtkiockffejlnhaaGreatDoor

/- bin and wakes (of the laws), at kinds that are no floats: contracts. -/
namespace Go.Proofs.YtkiockffejlnhaaGreatDoor
open Go.RowKit
set_option linter.unusedVariables false
namespace Wd
def bv (op k x y : Int) : Int := (binI op k x y).1
end Wd
end Go.Proofs.YtkiockffejlnhaaGreatDoor

/- Un: its contract. -/
namespace Go.Proofs.YtkiockffejlnhaaGreatDoor
open Go.RowKit
set_option linter.unusedVariables false
namespace Wd
def flip (x : Int) : Int := if x < 9223372036854775808 then x + 9223372036854775808 else x - 9223372036854775808
def unI (op k x : Int) : Int × Int :=
  if hasUnB op k = false then (0, 10) else if isB k x = false then (0, 11)
  else if op = 2 then (1 - x, 0) else if op = 3 then (canon k (18446744073709551615 - x), 0) else if k = 10 then (flip x, 0) else (canon k (-x), 0)
end Wd
theorem xor_top {a : Nat} (h : a < 9223372036854775808) : a ^^^ 9223372036854775808 = 9223372036854775808 + a := by
  have e : (9223372036854775808 : Nat) = 2 ^ 63 := by decide
  rw [e] at *
  refine Nat.eq_of_testBit_eq fun i => ?_
  rw [Nat.testBit_xor, Nat.testBit_two_pow]
  rcases Nat.lt_trichotomy i 63 with hi | hi | hi
  · rw [Nat.testBit_two_pow_add_gt hi, decide_eq_false (by omega), Bool.xor_false]
  · subst hi; rw [Nat.testBit_two_pow_add_eq, decide_eq_true rfl, Bool.xor_true]
  · have p : 2 ^ 64 ≤ 2 ^ i := Nat.pow_le_pow_right (by omega) hi
    have q : 2 ^ 64 = 2 ^ 63 + 2 ^ 63 := by decide
    rw [Nat.testBit_lt_two_pow (x := a) (by omega), Nat.testBit_lt_two_pow (x := 2 ^ 63 + a) (by omega), decide_eq_false (by omega), Bool.xor_false]
theorem xor_ones {a : Nat} (h : a < 18446744073709551616) : 18446744073709551615 ^^^ a = 18446744073709551615 - a := by
  have e1 : (18446744073709551615 : Nat) = 2 ^ 64 - 1 := by decide
  have e2 : (18446744073709551615 - a : Nat) = 2 ^ 64 - (a + 1) := by omega
  have h' : a < 2 ^ 64 := h
  rw [e2, e1]
  refine Nat.eq_of_testBit_eq fun i => ?_
  rw [Nat.testBit_xor, Nat.testBit_two_pow_sub_one, Nat.testBit_two_pow_sub_succ h']
  by_cases hi : i < 64
  · simp [hi]
  · have p : 2 ^ 64 ≤ 2 ^ i := Nat.pow_le_pow_right (by omega) (by omega)
    rw [Nat.testBit_lt_two_pow (x := a) (by omega)]; simp [hi]
theorem bits_flip {x : Int} (h1 : 0 ≤ x) (h2 : x < 18446744073709551616) : bits .xor .u64 x 9223372036854775808 = Wd.flip x := by
  rw [Go.u64_xor _ _ h1 h2 (by decide) (by decide), show (9223372036854775808 : Int).toNat = 9223372036854775808 from rfl]
  unfold Wd.flip
  split
  · rw [xor_top (by omega)]; omega
  · have e : x.toNat = (x - 9223372036854775808).toNat ^^^ 9223372036854775808 := by rw [xor_top (by omega)]; omega
    rw [e, Nat.xor_assoc, Nat.xor_self, Nat.xor_zero]; omega
theorem bits_com {x : Int} (h1 : 0 ≤ x) (h2 : x < 18446744073709551616) : bits .xor .u64 IntKind.u64.max x = 18446744073709551615 - x := by
  rw [show IntKind.u64.max = 18446744073709551615 from by decide, Go.u64_xor _ _ (by decide) (by decide) h1 h2, show (18446744073709551615 : Int).toNat = 18446744073709551615 from rfl, xor_ones (by omega)]; omega
theorem bits_not {x : Int} (h1 : 0 ≤ x) (h2 : x ≤ 1) : bits .xor .u64 x 1 = 1 - x := by
  rw [Go.u64_xor _ _ h1 (by omega) (by decide) (by decide)]
  have : x = 0 ∨ x = 1 := by omega
  rcases this with rfl | rfl <;> decide
theorem unI_ok {op k x : Int} (hh : Wd.hasUnB op k = true) (hi : Wd.isB k x = true) :
    Wd.unI op k x = if op = 2 then (1 - x, 0) else if op = 3 then (Wd.canon k (18446744073709551615 - x), 0) else if k = 10 then (Wd.flip x, 0) else (Wd.canon k (-x), 0) := by
  unfold Wd.unI; rw [if_neg (by simp [hh]), if_neg (by simp [hi])]
set_option maxHeartbeats 1000000 in
theorem un_ok (op k x : Int) (w : World) (hx : 0 ≤ x) (hx2 : x < 18446744073709551616) (hh : Wd.hasUnB op k = true) (hi : Wd.isB k x = true) :
    Calls Tryz.prog 112 #[.int .i64 op, .int .i64 k, .int .u64 x] w fun e w' => e = .returned (.tuple #[.int .u64 (Wd.unI op k x).1, .int .i64 (Wd.unI op k x).2]) ∧ w' = w := by
  have Hu : Hid (_ = _) := unI_ok hh hi
  have Hn : Hid (op = 2 → x ≤ 1) := by
    show op = 2 → x ≤ 1
    rintro rfl
    have hk : k = 1 := by simpa [Wd.hasUnB] using hh
    subst hk
    simp only [Wd.isB, Wd.canon1, Bool.and_eq_true, beq_iff_eq] at hi
    omega
  go_enter Tryz.func112, Tryz.ntmps112
  go_wp2_with (first | (go_at_call 137; refine (hasUn_any _ _ _).mono ?_; rintro e w' ⟨rfl, rfl⟩) | (go_at_call 132; refine (is_any _ _ _ (by first | assumption | decide) (by first | assumption | decide)).mono ?_; rintro e w' ⟨rfl, rfl⟩) | (go_at_call 138; go_in) | (go_at_call 123; refine (canon_any _ _ _ (by first | exact (wrap_rng _).1 | (rw [bits_com (by assumption) (by assumption)]; omega)) (by first | exact (wrap_rng _).2 | (rw [bits_com (by assumption) (by assumption)]; omega))).mono ?_; rintro e w' ⟨rfl, rfl⟩))
  all_goals
    go_ret2
    refine ⟨ret_bin ?_, rfl⟩
    show Wd.unI op k x = _
    rw [Hu.out]
  · rw [if_pos (by simpa using ‹(op == 2) = true›), bits_not hx (Hn.out (by simpa using ‹(op == 2) = true›))]
  · rw [if_neg (by simpa using ‹(op == 2) = false›), if_pos (by simpa using ‹(op == 3) = true›), bits_com hx hx2]
  · rw [if_neg (by simpa using ‹(op == 2) = false›), if_neg (by simpa using ‹(op == 3) = false›), if_pos (by simpa using ‹(k == 10) = true›), bits_flip hx hx2]
  · rw [if_neg (by simpa using ‹(op == 2) = false›), if_neg (by simpa using ‹(op == 3) = false›), if_neg (by simpa using ‹(k == 10) = false›), Wd.canon_wrap]
set_option maxHeartbeats 400000 in
theorem un_kind (op k x : Int) (w : World) (hh : Wd.hasUnB op k = false) :
    Calls Tryz.prog 112 #[.int .i64 op, .int .i64 k, .int .u64 x] w fun e w' => e = .returned (.tuple #[.int .u64 0, .int .i64 10]) ∧ w' = w := by
  go_enter Tryz.func112, Tryz.ntmps112
  go_wp2_with (go_at_call 137; refine (hasUn_any _ _ _).mono ?_; rintro e w' ⟨rfl, rfl⟩)
  go_ret2
  exact ⟨rfl, rfl⟩
set_option maxHeartbeats 400000 in
theorem un_form (op k x : Int) (w : World) (hx : 0 ≤ x) (hx2 : x < 18446744073709551616) (hh : Wd.hasUnB op k = true) (hi : Wd.isB k x = false) :
    Calls Tryz.prog 112 #[.int .i64 op, .int .i64 k, .int .u64 x] w fun e w' => e = .returned (.tuple #[.int .u64 0, .int .i64 11]) ∧ w' = w := by
  go_enter Tryz.func112, Tryz.ntmps112
  go_wp2_with (first | (go_at_call 137; refine (hasUn_any _ _ _).mono ?_; rintro e w' ⟨rfl, rfl⟩) | (go_at_call 132; refine (is_any _ _ _ (by assumption) (by assumption)).mono ?_; rintro e w' ⟨rfl, rfl⟩))
  go_ret2
  exact ⟨rfl, rfl⟩
theorem un_any (op k x : Int) (w : World) (hx : 0 ≤ x) (hx2 : x < 18446744073709551616) :
    Calls Tryz.prog 112 #[.int .i64 op, .int .i64 k, .int .u64 x] w fun e w' => e = .returned (.tuple #[.int .u64 (Wd.unI op k x).1, .int .i64 (Wd.unI op k x).2]) ∧ w' = w := by
  cases hh : Wd.hasUnB op k
  · have e : Wd.unI op k x = (0, 10) := by unfold Wd.unI; rw [if_pos hh]
    rw [e]; exact un_kind op k x w hh
  · cases hi : Wd.isB k x
    · have e : Wd.unI op k x = (0, 11) := by unfold Wd.unI; rw [if_neg (by simp [hh]), if_pos hi]
      rw [e]; exact un_form op k x w hx hx2 hh hi
    · exact un_ok op k x w hx hx2 hh hi
end Go.Proofs.YtkiockffejlnhaaGreatDoor

/- Floats as their bits: plain functions, and what they keep to. No Go here. -/
namespace Go.Proofs.YtkiockffejlnhaaGreatDoor
open Ieee
namespace Fl
set_option linter.unusedVariables false
def rd (x : Int) : Datum := double.read x.toNat
def theNaN : Int := 9221120237041090560
def ordN (a b : Nat) : Option Ordering := double.order a b
def cmpN (op : Int) (a b : Nat) : Int :=
  if op = 11 then Wd.tr (ordN a b == some .eq) else if op = 12 then Wd.tr (ordN a b != some .eq) else if op = 13 then Wd.tr (ordN a b == some .lt)
  else if op = 14 then Wd.tr (ordN a b == some .lt || ordN a b == some .eq) else if op = 15 then Wd.tr (ordN a b == some .gt) else if op = 16 then Wd.tr (ordN a b == some .gt || ordN a b == some .eq) else 0
def cmpF (op x y : Int) : Int := cmpN op x.toNat y.toNat
def raw (op x y : Int) : Option Nat :=
  if op = 1 then double.add x.toNat y.toNat else if op = 2 then double.sub x.toNat y.toNat else if op = 3 then double.mul x.toNat y.toNat else double.div x.toNat y.toNat
def ar (op x y : Int) : Int := match raw op x y with | some r => r | none => theNaN
def bf (op x y : Int) : Int := if Wd.cmpB op then cmpF op x y else ar op x y
theorem sum_comm (a b : Datum) : a.sum b = b.sum a := by
  cases a <;> cases b <;> simp only [Datum.sum]
  · rename_i s m i t n j
    rw [Int.min_comm i j, Int.add_comm (signed s m _), Bool.and_comm s t]
  · rename_i s t
    by_cases h : s = t
    · subst h; rfl
    · rw [if_neg h, if_neg (fun e => h e.symm)]
theorem product_comm (a b : Datum) : a.product b = b.product a := by
  cases a <;> cases b <;> simp only [Datum.product]
  · rename_i s m i t n j
    rw [Bool.xor_comm, Nat.mul_comm, Int.add_comm]
  · rename_i s t; rw [Bool.xor_comm]
theorem sw : double.signWeight = 9223372036854775808 := by decide +kernel
theorem bn : double.binade = 4503599627370496 := by decide +kernel
theorem ir : double.infRung = 9218868437227405312 := by decide +kernel
theorem lp : double.leastPlace = -1074 := by decide +kernel
def rdOf (neg : Bool) (rung : Nat) : Datum :=
  if rung < 4503599627370496 then .number neg rung (-1074)
  else if rung < 9218868437227405312 then .number neg (4503599627370496 + rung % 4503599627370496) (-1074 + (rung / 4503599627370496 - 1 : Nat))
  else if rung = 9218868437227405312 then .infinity neg
  else .nan neg (rung - 9218868437227405312)
theorem read_is (n : Nat) : double.read n = rdOf (n / 9223372036854775808 % 2 == 1) (n % 9223372036854775808) := by
  unfold Format.read rdOf
  simp only [sw, bn, ir, lp]
theorem read_word (neg : Bool) {rung : Nat} (h : rung < 9223372036854775808) : double.read (double.word neg rung) = rdOf neg rung := by
  rw [read_is]
  unfold Format.word
  rw [sw]
  cases neg
  · rw [if_neg (by simp), show rung / 9223372036854775808 % 2 = 0 by omega, show rung % 9223372036854775808 = rung by omega]; rfl
  · rw [if_pos rfl, show (9223372036854775808 + rung) / 9223372036854775808 % 2 = 1 by omega, show (9223372036854775808 + rung) % 9223372036854775808 = rung by omega]; rfl
theorem nearest_word (neg : Bool) (mag : Nat) (place : Int) : ∃ rung, rung ≤ 9218868437227405312 ∧ double.nearest neg mag place = double.word neg rung := by
  unfold Format.nearest
  split
  · exact ⟨0, by omega, rfl⟩
  · dsimp only
    refine ⟨_, ?_, rfl⟩
    rw [ir]; exact Nat.min_le_right _ _
theorem write_num (neg : Bool) (mag : Nat) (place : Int) : (double.read (double.write (.number neg mag place))).isNaN = false := by
  obtain ⟨r, h, e⟩ := nearest_word neg mag place
  show (double.read (double.nearest neg mag place)).isNaN = false
  rw [e, read_word neg (by omega)]
  unfold rdOf
  repeat' split
  all_goals first | rfl | omega
theorem write_inf (neg : Bool) : (double.read (double.write (.infinity neg))).isNaN = false := by
  show (double.read (double.word neg double.infRung)).isNaN = false
  rw [ir, read_word neg (by omega)]
  unfold rdOf
  repeat' split
  all_goals first | rfl | omega
theorem cmp_self (a : Int) : compare a a = Ordering.eq := by simp [compare, compareOfLessAndEq]
theorem cmp_selfN (a : Nat) : compare a a = Ordering.eq := by simp [compare, compareOfLessAndEq]
theorem order_self {d : Datum} (h : d.isNaN = false) : d.order d = some .eq := by
  cases d with
  | number s m i => simp only [Datum.order]; rw [cmp_self]
  | infinity s => simp only [Datum.order]; rw [cmp_selfN]
  | nan s t => cases h
theorem order_nan {d e : Datum} (h : d.isNaN = true) : d.order e = none := by
  cases d with
  | nan s t => cases e <;> rfl
  | number s m i => cases h
  | infinity s => cases h
theorem raw_ok {op x y : Int} {r : Nat} (h : raw op x y = some r) : (double.read r).isNaN = false := by
  have key : ∀ d : Option Datum, (∀ e, d = some e → e.isNaN = false) → d.map double.write = some r → (double.read r).isNaN = false := by
    intro d hd hr
    cases d with
    | none => cases hr
    | some e =>
      have h1 := hd e rfl
      have : double.write e = r := by simpa using hr
      subst this
      cases e with
      | number s m i => exact write_num s m i
      | infinity s => exact write_inf s
      | nan s t => cases h1
  have hs : ∀ a b e, Datum.sum a b = some e → e.isNaN = false := by
    intro a b e he
    cases a <;> cases b <;> simp only [Datum.sum] at he
    all_goals first | (cases he; done) | skip
    all_goals first | (cases he; rfl) | (split at he; · cases he; rfl
                                         · cases he)
  have hp : ∀ a b e, Datum.product a b = some e → e.isNaN = false := by
    intro a b e he
    cases a <;> cases b <;> simp only [Datum.product] at he
    all_goals first | (cases he; done) | skip
    all_goals first | (cases he; rfl) | (split at he; · cases he
                                         · cases he; rfl)
  have hq : ∀ n a b e, Datum.quotient n a b = some e → e.isNaN = false := by
    intro n a b e he
    cases a <;> cases b <;> simp only [Datum.quotient] at he
    all_goals first | (cases he; done) | skip
    all_goals first | (cases he; rfl) | (split at he; · split at he
                                                        · cases he
                                                        · cases he; rfl
                                         · cases he; rfl)
  unfold raw at h
  split at h
  · exact key _ (hs _ _) h
  · split at h
    · exact key _ (hs _ _) h
    · split at h
      · exact key _ (hp _ _) h
      · exact key _ (hq _ _ _) h
end Fl
end Go.Proofs.YtkiockffejlnhaaGreatDoor

/- The float functions of package word: contracts. -/
namespace Go.Proofs.YtkiockffejlnhaaGreatDoor
open Go.RowKit
set_option linter.unusedVariables false
theorem frombits (x : Int) (w : World) : (callFunc 147 #[.int .u64 x]).run Tryz.prog w = .ok (.value (.float .f64 x.toNat)) w := by kernel_rfl
theorem tobits (b : Nat) (w : World) : (callFunc 152 #[.float .f64 b]).run Tryz.prog w = .ok (.value (.int .u64 b)) w := by kernel_rfl
theorem ord_nat (a b : Nat) : Fl.ordN a b = FloatKind.f64.format.order a b := rfl
set_option maxHeartbeats 400000 in
theorem compareF_any (op : Int) (a b : Nat) (w : World) :
    Calls Tryz.prog 148 #[.int .i64 op, .float .f64 a, .float .f64 b] w fun e w' => e = .returned (.int .u64 (Fl.cmpN op a b)) ∧ w' = w := by
  go_enter Tryz.func148, Tryz.ntmps148
  go_wp2
  all_goals
    go_ret
    refine ⟨ret_u64 ?_, rfl⟩
    unfold Fl.cmpN Wd.tr
    rw [ord_nat]
    generalize FloatKind.f64.format.order a b = o at *
    simp_all
theorem self_eq {b : Nat} (h : (Ieee.double.read b).isNaN = false) : (FloatKind.f64.format.order b b != some Ordering.eq) = false := by
  show (Ieee.Datum.order (Ieee.double.read b) (Ieee.double.read b) != some Ordering.eq) = false
  rw [Fl.order_self h]; rfl
theorem self_ne {b : Nat} (h : (Ieee.double.read b).isNaN = true) : (FloatKind.f64.format.order b b != some Ordering.eq) = true := by
  show (Ieee.Datum.order (Ieee.double.read b) (Ieee.double.read b) != some Ordering.eq) = true
  rw [Fl.order_nan h]; rfl
set_option maxHeartbeats 400000 in
theorem oneNaN_no (b : Nat) (w : World) (h : (Ieee.double.read b).isNaN = false) :
    Calls Tryz.prog 149 #[.float .f64 b] w fun e w' => e = .returned (.int .u64 b) ∧ w' = w := by
  have hb := tobits b
  have hs := self_eq h
  clear h
  go_enter Tryz.func149, Tryz.ntmps149
  go_wp2
  go_ret
  exact ⟨rfl, rfl⟩
set_option maxHeartbeats 400000 in
theorem oneNaN_yes (b : Nat) (w : World) (h : (Ieee.double.read b).isNaN = true) :
    Calls Tryz.prog 149 #[.float .f64 b] w fun e w' => e = .returned (.int .u64 Fl.theNaN) ∧ w' = w := by
  have hs := self_ne h
  clear h
  go_enter Tryz.func149, Tryz.ntmps149
  go_wp2
  go_ret
  exact ⟨rfl, rfl⟩
def anyNaN (w : World) (x y : Nat) : Nat := Question.cut (.nanBits .f64 x y) (w.tape w.drawn (.nanBits .f64 x y))
theorem anyNaN_is (w : World) (x y : Nat) : (Ieee.double.read (anyNaN w x y)).isNaN = true := by
  unfold anyNaN
  generalize w.tape w.drawn (.nanBits .f64 x y) = t
  show (Ieee.double.read ((t % 2) * 2 ^ 63 + 0x7ff0000000000000 + 1 + (t / 2) % (2 ^ 52 - 1))).isNaN = true
  rw [Fl.read_is]
  have h1 : ((t % 2) * 2 ^ 63 + 0x7ff0000000000000 + 1 + (t / 2) % (2 ^ 52 - 1)) % 9223372036854775808 = 0x7ff0000000000000 + 1 + (t / 2) % (2 ^ 52 - 1) := by omega
  rw [h1]
  unfold Fl.rdOf
  rw [if_neg (by omega), if_neg (by omega), if_neg (by omega)]; rfl
theorem run_nan (op : BinOp) (t : TypeId) (x y : Nat) (h : floatBits op .f64 x y = none) (ho : op = .add ∨ op = .sub ∨ op = .mul ∨ op = .quo) (w : World) :
    (binOp op t (.float .f64 x) (.float .f64 y)).run Tryz.prog w = .ok (.float .f64 (anyNaN w x y)) w.drew := by
  unfold floatBits at h
  rcases ho with rfl | rfl | rfl | rfl <;> simp only at h <;> simp [binOp, Op.floatArith, h, anyNaN, Question.forced]
set_option maxHeartbeats 400000 in
theorem binF_add (x y : Int) (w : World) :
    Calls Tryz.prog 133 #[.int .i64 1, .int .u64 x, .int .u64 y] w fun e w' => e = .returned (.int .u64 (Fl.ar 1 x y)) ∧ ∃ n, w' = w.drewN n := by
  have f1 := frombits
  cases hr : floatBits .add .f64 x.toNat y.toNat with
  | some r =>
    have Ha : Hid (Fl.ar 1 x y = r) := by show (match floatBits .add .f64 x.toNat y.toNat with | some r => (r : Int) | none => Fl.theNaN) = (r : Int); rw [hr]
    have Hn : Hid ((Ieee.double.read r).isNaN = false) := Fl.raw_ok (op := 1) (x := x) (y := y) hr
    have hrun := fun (w : World) (t : TypeId) => run_float_arith (P := Tryz.prog) w .add t .f64 x.toNat y.toNat r hr
    clear hr
    go_enter Tryz.func133, Tryz.ntmps133
    go_wp2_with (first | (go_at_call 145; go_in) | (go_at_call 149; refine (oneNaN_no _ _ Hn.out).mono ?_; rintro e w' ⟨rfl, rfl⟩))
    go_ret
    exact ⟨ret_u64 Ha.out.symm, 0, rfl⟩
  | none =>
    have Ha : Hid (Fl.ar 1 x y = Fl.theNaN) := by show (match floatBits .add .f64 x.toNat y.toNat with | some r => (r : Int) | none => Fl.theNaN) = _; rw [hr]
    have hrun := fun (w : World) (t : TypeId) => run_nan .add t x.toNat y.toNat hr (by simp) w
    clear hr
    go_enter Tryz.func133, Tryz.ntmps133
    go_wp2_with (first | (go_at_call 145; go_in) | (go_at_call 149; refine (oneNaN_yes _ _ (anyNaN_is _ _ _)).mono ?_; rintro e w' ⟨rfl, rfl⟩))
    go_ret
    exact ⟨ret_u64 Ha.out.symm, 1, rfl⟩
set_option maxHeartbeats 400000 in
theorem binF_sub (x y : Int) (w : World) :
    Calls Tryz.prog 133 #[.int .i64 2, .int .u64 x, .int .u64 y] w fun e w' => e = .returned (.int .u64 (Fl.ar 2 x y)) ∧ ∃ n, w' = w.drewN n := by
  have f1 := frombits
  cases hr : floatBits .sub .f64 x.toNat y.toNat with
  | some r =>
    have Ha : Hid (Fl.ar 2 x y = r) := by show (match floatBits .sub .f64 x.toNat y.toNat with | some r => (r : Int) | none => Fl.theNaN) = (r : Int); rw [hr]
    have Hn : Hid ((Ieee.double.read r).isNaN = false) := Fl.raw_ok (op := 2) (x := x) (y := y) hr
    have hrun := fun (w : World) (t : TypeId) => run_float_arith (P := Tryz.prog) w .sub t .f64 x.toNat y.toNat r hr
    clear hr
    go_enter Tryz.func133, Tryz.ntmps133
    go_wp2_with (first | (go_at_call 145; go_in) | (go_at_call 149; refine (oneNaN_no _ _ Hn.out).mono ?_; rintro e w' ⟨rfl, rfl⟩))
    go_ret
    exact ⟨ret_u64 Ha.out.symm, 0, rfl⟩
  | none =>
    have Ha : Hid (Fl.ar 2 x y = Fl.theNaN) := by show (match floatBits .sub .f64 x.toNat y.toNat with | some r => (r : Int) | none => Fl.theNaN) = _; rw [hr]
    have hrun := fun (w : World) (t : TypeId) => run_nan .sub t x.toNat y.toNat hr (by simp) w
    clear hr
    go_enter Tryz.func133, Tryz.ntmps133
    go_wp2_with (first | (go_at_call 145; go_in) | (go_at_call 149; refine (oneNaN_yes _ _ (anyNaN_is _ _ _)).mono ?_; rintro e w' ⟨rfl, rfl⟩))
    go_ret
    exact ⟨ret_u64 Ha.out.symm, 1, rfl⟩
set_option maxHeartbeats 400000 in
theorem binF_mul (x y : Int) (w : World) :
    Calls Tryz.prog 133 #[.int .i64 3, .int .u64 x, .int .u64 y] w fun e w' => e = .returned (.int .u64 (Fl.ar 3 x y)) ∧ ∃ n, w' = w.drewN n := by
  have f1 := frombits
  cases hr : floatBits .mul .f64 x.toNat y.toNat with
  | some r =>
    have Ha : Hid (Fl.ar 3 x y = r) := by show (match floatBits .mul .f64 x.toNat y.toNat with | some r => (r : Int) | none => Fl.theNaN) = (r : Int); rw [hr]
    have Hn : Hid ((Ieee.double.read r).isNaN = false) := Fl.raw_ok (op := 3) (x := x) (y := y) hr
    have hrun := fun (w : World) (t : TypeId) => run_float_arith (P := Tryz.prog) w .mul t .f64 x.toNat y.toNat r hr
    clear hr
    go_enter Tryz.func133, Tryz.ntmps133
    go_wp2_with (first | (go_at_call 145; go_in) | (go_at_call 149; refine (oneNaN_no _ _ Hn.out).mono ?_; rintro e w' ⟨rfl, rfl⟩))
    go_ret
    exact ⟨ret_u64 Ha.out.symm, 0, rfl⟩
  | none =>
    have Ha : Hid (Fl.ar 3 x y = Fl.theNaN) := by show (match floatBits .mul .f64 x.toNat y.toNat with | some r => (r : Int) | none => Fl.theNaN) = _; rw [hr]
    have hrun := fun (w : World) (t : TypeId) => run_nan .mul t x.toNat y.toNat hr (by simp) w
    clear hr
    go_enter Tryz.func133, Tryz.ntmps133
    go_wp2_with (first | (go_at_call 145; go_in) | (go_at_call 149; refine (oneNaN_yes _ _ (anyNaN_is _ _ _)).mono ?_; rintro e w' ⟨rfl, rfl⟩))
    go_ret
    exact ⟨ret_u64 Ha.out.symm, 1, rfl⟩
set_option maxHeartbeats 400000 in
theorem binF_quo (x y : Int) (w : World) :
    Calls Tryz.prog 133 #[.int .i64 4, .int .u64 x, .int .u64 y] w fun e w' => e = .returned (.int .u64 (Fl.ar 4 x y)) ∧ ∃ n, w' = w.drewN n := by
  have f1 := frombits
  cases hr : floatBits .quo .f64 x.toNat y.toNat with
  | some r =>
    have Ha : Hid (Fl.ar 4 x y = r) := by show (match floatBits .quo .f64 x.toNat y.toNat with | some r => (r : Int) | none => Fl.theNaN) = (r : Int); rw [hr]
    have Hn : Hid ((Ieee.double.read r).isNaN = false) := Fl.raw_ok (op := 4) (x := x) (y := y) hr
    have hrun := fun (w : World) (t : TypeId) => run_float_arith (P := Tryz.prog) w .quo t .f64 x.toNat y.toNat r hr
    clear hr
    go_enter Tryz.func133, Tryz.ntmps133
    go_wp2_with (first | (go_at_call 145; go_in) | (go_at_call 149; refine (oneNaN_no _ _ Hn.out).mono ?_; rintro e w' ⟨rfl, rfl⟩))
    go_ret
    exact ⟨ret_u64 Ha.out.symm, 0, rfl⟩
  | none =>
    have Ha : Hid (Fl.ar 4 x y = Fl.theNaN) := by show (match floatBits .quo .f64 x.toNat y.toNat with | some r => (r : Int) | none => Fl.theNaN) = _; rw [hr]
    have hrun := fun (w : World) (t : TypeId) => run_nan .quo t x.toNat y.toNat hr (by simp) w
    clear hr
    go_enter Tryz.func133, Tryz.ntmps133
    go_wp2_with (first | (go_at_call 145; go_in) | (go_at_call 149; refine (oneNaN_yes _ _ (anyNaN_is _ _ _)).mono ?_; rintro e w' ⟨rfl, rfl⟩))
    go_ret
    exact ⟨ret_u64 Ha.out.symm, 1, rfl⟩
set_option maxHeartbeats 400000 in
theorem binF_cmp (op x y : Int) (w : World) (hc : Wd.cmpB op = true) :
    Calls Tryz.prog 133 #[.int .i64 op, .int .u64 x, .int .u64 y] w fun e w' => e = .returned (.int .u64 (Fl.cmpF op x y)) ∧ w' = w := by
  have f1 := frombits
  go_enter Tryz.func133, Tryz.ntmps133
  go_wp2_with (first | (go_at_call 145; refine (compares_any _ _).mono ?_; rintro e w' ⟨rfl, rfl⟩) | (go_at_call 148; refine (compareF_any _ _ _ _).mono ?_; rintro e w' ⟨rfl, rfl⟩))
  go_ret
  exact ⟨rfl, rfl⟩
theorem binF_any (op x y : Int) (w : World) (hop : Wd.hasBinB op 10 = true) :
    Calls Tryz.prog 133 #[.int .i64 op, .int .u64 x, .int .u64 y] w fun e w' => e = .returned (.int .u64 (Fl.bf op x y)) ∧ ∃ n, w' = w.drewN n := by
  unfold Fl.bf
  cases hc : Wd.cmpB op
  · have ho : op = 1 ∨ op = 2 ∨ op = 3 ∨ op = 4 := by
      simp [Wd.hasBinB, Wd.intB, hc] at hop; omega
    rw [if_neg (by simp)]
    rcases ho with rfl | rfl | rfl | rfl
    · exact binF_add x y w
    · exact binF_sub x y w
    · exact binF_mul x y w
    · exact binF_quo x y w
  · rw [if_pos rfl]
    refine (binF_cmp op x y w hc).mono ?_
    rintro e w' ⟨rfl, rfl⟩
    exact ⟨rfl, 0, rfl⟩
end Go.Proofs.YtkiockffejlnhaaGreatDoor
