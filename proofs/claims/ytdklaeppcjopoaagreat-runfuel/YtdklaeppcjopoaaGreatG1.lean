/- Contracts and plain facts that the walks share, text by text: Plain, Leaf, Canon, RSmall, MBase, RcPure, CcPure, Reckon, Bins, BinI, Bin, Un, FPlain, FWalk, Modulo, Ring, FBin, FLaws, FConv, Conv, MRead, MWrite, MRoom, MNew, MLoad, RcLeaf. -/
import Derived.Test.YtdklaeppcjopoaaGreatRows
import Derived.WalkKit
import Derived.WalkSpells
import Derived.WalkLawsBesides
import Derived.Deep.QuietTactic
import Derived.BigQuiet
import Derived.Deep.OwnRows
import Derived.Below
import Derived.Laws.FloatArith
import Derived.Deep.Draws
import Derived.OwnWalk
/- What words are, as plain functions on integers (words are the integers from 0 to 2^64 - 1): no Go here. -/
namespace Go.Proofs.YtdklaeppcjopoaaGreat
namespace Wd

def wid (k : Int) : Int := if k = 1 then 1 else if k = 2 ∨ k = 6 then 8 else if k = 3 ∨ k = 7 then 16 else if k = 4 ∨ k = 8 then 32 else if k = 5 ∨ k = 9 ∨ k = 10 ∨ k = 11 then 64 else 0

/-- the word whose lowest bits are x's, m = 2^width, h = m / 2 -/
def sx (m h x : Int) : Int := ((x + h) % m - h) % 18446744073709551616

def canon (k x : Int) : Int :=
  if k = 1 then x % 2 else if k = 2 then sx 256 128 x else if k = 3 then sx 65536 32768 x else if k = 4 then sx 4294967296 2147483648 x
  else if k = 5 then x % 18446744073709551616 else if k = 6 then x % 256 else if k = 7 then x % 65536 else if k = 8 then x % 4294967296
  else if k = 9 then x % 18446744073709551616 else if k = 10 then x % 18446744073709551616 else if k = 11 then x % 18446744073709551616 else 0

def isB (k x : Int) : Bool := decide (1 ≤ k) && decide (k ≤ 11) && (canon k x == x)
def sgnB (k : Int) : Bool := decide (2 ≤ k) && decide (k ≤ 5)
def intB (k : Int) : Bool := decide (2 ≤ k) && decide (k ≤ 9)
def numB (k : Int) : Bool := decide (2 ≤ k) && decide (k ≤ 10)
def cmpB (op : Int) : Bool := decide (11 ≤ op) && decide (op ≤ 16)
def hasUnB (op k : Int) : Bool := (op == 1 && numB k) || (op == 2 && k == 1) || (op == 3 && intB k)
def hasBinB (op k : Int) : Bool :=
  (intB k && decide (1 ≤ op) && decide (op ≤ 16)) || (k == 10 && ((decide (1 ≤ op) && decide (op ≤ 4)) || cmpB op)) ||
  (k == 1 && (op == 6 || op == 7 || op == 8 || op == 11 || op == 12)) || (k == 11 && (op == 11 || op == 12))

def tr (b : Bool) : Int := if b then 1 else 0

/-- the order of two numbers -/
def cmpI (op a b : Int) : Int :=
  if op = 11 then tr (a == b) else if op = 12 then tr (a != b) else if op = 13 then tr (decide (a < b)) else if op = 14 then tr (decide (a ≤ b))
  else if op = 15 then tr (decide (b < a)) else if op = 16 then tr (decide (b ≤ a)) else 0

/-- the signed number of 64 bits -/
def sg (x : Int) : Int := (x + 9223372036854775808) % 18446744073709551616 - 9223372036854775808

/-- unsigned kinds, bools and pointers -/
def bu (op k x y : Int) : Int :=
  if op = 1 then canon k (x + y) else if op = 2 then canon k (x - y) else if op = 3 then canon k (x * y) else if op = 4 then canon k (x / y) else if op = 5 then canon k (x % y)
  else if op = 6 then canon k (x.toNat &&& y.toNat : Nat) else if op = 7 then canon k (x.toNat ||| y.toNat : Nat) else if op = 8 then canon k (x.toNat ^^^ y.toNat : Nat)
  else if op = 9 then canon k (x * 2 ^ min y.toNat 64) else if op = 10 then canon k (x / 2 ^ min y.toNat 64) else cmpI op x y

def bs (op k x y : Int) : Int :=
  if op = 4 then canon k ((sg x).tdiv (sg y)) else if op = 5 then canon k ((sg x).tmod (sg y)) else if op = 10 then (sg x / 2 ^ min y.toNat 64) % 18446744073709551616
  else if 11 ≤ op then cmpI op (sg x) (sg y) else bu op k x y

/-- ints, bools, pointers: the word; 0 where there is none -/
def shB (op : Int) : Bool := op == 9 || op == 10

theorem kinds (k : Int) : k = 1 ∨ k = 2 ∨ k = 3 ∨ k = 4 ∨ k = 5 ∨ k = 6 ∨ k = 7 ∨ k = 8 ∨ k = 9 ∨ k = 10 ∨ k = 11 ∨ (k < 1 ∨ 11 < k) := by omega
theorem canon_out (k x : Int) (h : k < 1 ∨ 11 < k) : canon k x = 0 := by
  unfold canon
  rw [if_neg (by omega), if_neg (by omega), if_neg (by omega), if_neg (by omega), if_neg (by omega), if_neg (by omega), if_neg (by omega), if_neg (by omega), if_neg (by omega), if_neg (by omega), if_neg (by omega)]
theorem canon1 (x : Int) : canon 1 x = x % 2 := rfl
theorem canon2 (x : Int) : canon 2 x = ((x + 128) % 256 - 128) % 18446744073709551616 := rfl
theorem canon3 (x : Int) : canon 3 x = ((x + 32768) % 65536 - 32768) % 18446744073709551616 := rfl
theorem canon4 (x : Int) : canon 4 x = ((x + 2147483648) % 4294967296 - 2147483648) % 18446744073709551616 := rfl
theorem canon5 (x : Int) : canon 5 x = x % 18446744073709551616 := rfl
theorem canon6 (x : Int) : canon 6 x = x % 256 := rfl
theorem canon7 (x : Int) : canon 7 x = x % 65536 := rfl
theorem canon8 (x : Int) : canon 8 x = x % 4294967296 := rfl
theorem canon9 (x : Int) : canon 9 x = x % 18446744073709551616 := rfl
theorem canon10 (x : Int) : canon 10 x = x % 18446744073709551616 := rfl
theorem canon11 (x : Int) : canon 11 x = x % 18446744073709551616 := rfl

theorem canon_mod (k x : Int) : canon k (x % 18446744073709551616) = canon k x := by
  rcases kinds k with h | h | h | h | h | h | h | h | h | h | h | h <;> first | (subst h; simp only [canon1, canon2, canon3, canon4, canon5, canon6, canon7, canon8, canon9, canon10, canon11]; omega) | simp only [canon_out k _ h]
theorem canon_wrap (k x : Int) : canon k (IntKind.u64.wrap x) = canon k x := by rw [IntKind.wrap_u64, canon_mod]
theorem canon_rng (k x : Int) : 0 ≤ canon k x ∧ canon k x < 18446744073709551616 := by
  rcases kinds k with h | h | h | h | h | h | h | h | h | h | h | h <;> first | (subst h; simp only [canon1, canon2, canon3, canon4, canon5, canon6, canon7, canon8, canon9, canon10, canon11]; omega) | simp only [canon_out k _ h]; omega
theorem canon_canon (k x : Int) : canon k (canon k x) = canon k x := by
  rcases kinds k with h | h | h | h | h | h | h | h | h | h | h | h <;> first | (subst h; simp only [canon1, canon2, canon3, canon4, canon5, canon6, canon7, canon8, canon9, canon10, canon11]; omega) | simp only [canon_out k _ h]

theorem bu1 (k x y : Int) : bu 1 k x y = canon k (x + y) := rfl
theorem bu2 (k x y : Int) : bu 2 k x y = canon k (x - y) := rfl
theorem bu3 (k x y : Int) : bu 3 k x y = canon k (x * y) := rfl
theorem bu4 (k x y : Int) : bu 4 k x y = canon k (x / y) := rfl
theorem bu5 (k x y : Int) : bu 5 k x y = canon k (x % y) := rfl
theorem bu6 (k x y : Int) : bu 6 k x y = canon k (x.toNat &&& y.toNat : Nat) := rfl
theorem bu7 (k x y : Int) : bu 7 k x y = canon k (x.toNat ||| y.toNat : Nat) := rfl
theorem bu8 (k x y : Int) : bu 8 k x y = canon k (x.toNat ^^^ y.toNat : Nat) := rfl
theorem bu9 (k x y : Int) : bu 9 k x y = canon k (x * 2 ^ min y.toNat 64) := rfl
theorem bu10 (k x y : Int) : bu 10 k x y = canon k (x / 2 ^ min y.toNat 64) := rfl
theorem bs4 (k x y : Int) : bs 4 k x y = canon k ((sg x).tdiv (sg y)) := rfl
theorem bs5 (k x y : Int) : bs 5 k x y = canon k ((sg x).tmod (sg y)) := rfl
theorem bs10 (k x y : Int) : bs 10 k x y = (sg x / 2 ^ min y.toNat 64) % 18446744073709551616 := rfl
theorem bsc (op k x y : Int) (h : 11 ≤ op) : bs op k x y = cmpI op (sg x) (sg y) := by
  unfold bs; rw [if_neg (by omega), if_neg (by omega), if_neg (by omega), if_pos h]
theorem bsu (op k x y : Int) (h : op ≤ 10) (h4 : op ≠ 4) (h5 : op ≠ 5) (h10 : op ≠ 10) : bs op k x y = bu op k x y := by
  unfold bs; rw [if_neg h4, if_neg h5, if_neg h10, if_neg (by omega)]

/-- Bin of a kind that is not KindF64: the word and the error -/
def binI (op k x y : Int) : Int × Int :=
  if hasBinB op k = false then (0, 10) else if isB k x = false ∨ isB (if shB op then 9 else k) y = false then (0, 11)
  else if y = 0 ∧ (op = 4 ∨ op = 5) then (0, 12) else if sgnB k then (bs op k x y, 0) else (bu op k x y, 0)

theorem hasBin_ops {op k : Int} (h : hasBinB op k = true) : 1 ≤ op ∧ op ≤ 16 := by
  simp [hasBinB, intB, cmpB] at h; omega

end Wd
end Go.Proofs.YtdklaeppcjopoaaGreat

/- The small functions of package word, each a plain function of its arguments: contracts. -/
namespace Go.Proofs.YtdklaeppcjopoaaGreat
open Go.RowKit

theorem ret_i64 {a b : Int} (h : a = b) : Ending.returned (.int .i64 a) = .returned (.int .i64 b) := by rw [h]
theorem ret_u64 {a b : Int} (h : a = b) : Ending.returned (.int .u64 a) = .returned (.int .u64 b) := by rw [h]
theorem ret_bool {a b : Bool} (h : a = b) : Ending.returned (.bool a) = .returned (.bool b) := by rw [h]

set_option maxHeartbeats 400000 in
theorem width_any (k : Int) (w : World) :
    Calls Tryz.prog 140 #[.int .i64 k] w fun e w' => e = .returned (.int .i64 (Wd.wid k)) ∧ w' = w := by
  go_enter Tryz.func140, Tryz.ntmps140
  go_wp2
  all_goals (go_ret; refine ⟨ret_i64 ?_, rfl⟩; simp only [beq_iff_eq, beq_eq_false_iff_ne] at *; unfold Wd.wid; simp [*])

set_option maxHeartbeats 400000 in
theorem signed_any (k : Int) (w : World) :
    Calls Tryz.prog 141 #[.int .i64 k] w fun e w' => e = .returned (.bool (Wd.sgnB k)) ∧ w' = w := by
  go_enter Tryz.func141, Tryz.ntmps141
  go_wp2
  all_goals (go_ret; refine ⟨ret_bool ?_, rfl⟩; simp only [beq_iff_eq, beq_eq_false_iff_ne] at *; unfold Wd.sgnB; first | (rw [Bool.eq_iff_iff]; simp; omega))

set_option maxHeartbeats 400000 in
theorem int_any (k : Int) (w : World) :
    Calls Tryz.prog 198 #[.int .i64 k] w fun e w' => e = .returned (.bool (Wd.intB k)) ∧ w' = w := by
  go_enter Tryz.func198, Tryz.ntmps198
  go_wp2_with (go_at_call 141; refine (signed_any _ _).mono ?_; rintro e w' ⟨rfl, rfl⟩)
  all_goals (go_ret; refine ⟨ret_bool ?_, rfl⟩; simp only [beq_iff_eq, beq_eq_false_iff_ne] at *; simp only [Wd.intB, Wd.sgnB]; first | (rw [Bool.eq_iff_iff]; simp; omega))

set_option maxHeartbeats 400000 in
theorem number_any (k : Int) (w : World) :
    Calls Tryz.prog 203 #[.int .i64 k] w fun e w' => e = .returned (.bool (Wd.numB k)) ∧ w' = w := by
  go_enter Tryz.func203, Tryz.ntmps203
  go_wp2_with (go_at_call 198; refine (int_any _ _).mono ?_; rintro e w' ⟨rfl, rfl⟩)
  all_goals (go_ret; refine ⟨ret_bool ?_, rfl⟩; simp only [Wd.intB, Wd.numB] at *; first | (rw [Bool.eq_iff_iff]; simp at *; omega))

set_option maxHeartbeats 400000 in
theorem compares_any (k : Int) (w : World) :
    Calls Tryz.prog 197 #[.int .i64 k] w fun e w' => e = .returned (.bool (Wd.cmpB k)) ∧ w' = w := by
  go_enter Tryz.func197, Tryz.ntmps197
  go_wp2
  all_goals (go_ret; refine ⟨ret_bool ?_, rfl⟩; simp only [Wd.cmpB] at *; first | (rw [Bool.eq_iff_iff]; simp at *; omega))

set_option maxHeartbeats 400000 in
theorem hasUn_any (op k : Int) (w : World) :
    Calls Tryz.prog 191 #[.int .i64 op, .int .i64 k] w fun e w' => e = .returned (.bool (Wd.hasUnB op k)) ∧ w' = w := by
  go_enter Tryz.func191, Tryz.ntmps191
  go_wp2_with (go_at_call 198; refine (int_any _ _).mono ?_; rintro e w' ⟨rfl, rfl⟩)
  all_goals (go_ret; refine ⟨ret_bool ?_, rfl⟩; simp only [Wd.hasUnB, Wd.intB, Wd.numB] at *; first | (rw [Bool.eq_iff_iff]; simp at *; omega))

set_option maxHeartbeats 400000 in
theorem hasBin_any (op k : Int) (w : World) :
    Calls Tryz.prog 186 #[.int .i64 op, .int .i64 k] w fun e w' => e = .returned (.bool (Wd.hasBinB op k)) ∧ w' = w := by
  go_enter Tryz.func186, Tryz.ntmps186
  go_wp2_with (first | (go_at_call 198; refine (int_any _ _).mono ?_; rintro e w' ⟨rfl, rfl⟩) | (go_at_call 197; refine (compares_any _ _).mono ?_; rintro e w' ⟨rfl, rfl⟩))
  all_goals (go_ret; refine ⟨ret_bool ?_, rfl⟩; simp only [Wd.hasBinB, Wd.intB, Wd.cmpB] at *; first | (rw [Bool.eq_iff_iff]; simp at *; omega))

end Go.Proofs.YtdklaeppcjopoaaGreat

/- Canon, Is, Bytes and the comparisons of package word: contracts. -/
namespace Go.Proofs.YtdklaeppcjopoaaGreat
open Go.RowKit

set_option maxHeartbeats 400000 in
theorem canon_any (k x : Int) (w : World) (hx : 0 ≤ x) (hx2 : x < 18446744073709551616) :
    Calls Tryz.prog 137 #[.int .i64 k, .int .u64 x] w fun e w' => e = .returned (.int .u64 (Wd.canon k x)) ∧ w' = w := by
  rcases Wd.kinds k with h | h | h | h | h | h | h | h | h | h | h | (h | h)
  all_goals
    first | subst h | skip
    go_enter Tryz.func137, Tryz.ntmps137
    go_wp2
    go_ret
    refine ⟨ret_u64 ?_, rfl⟩
    first
      | (simp only [Wd.canon1, Wd.canon2, Wd.canon3, Wd.canon4, Wd.canon5, Wd.canon6, Wd.canon7, Wd.canon8, Wd.canon9, Wd.canon10, Wd.canon11, IntKind.wrap_u64, wrap64]; omega)
      | exact (Wd.canon_out k x (by omega)).symm

set_option maxHeartbeats 400000 in
theorem is_any (k x : Int) (w : World) (hx : 0 ≤ x) (hx2 : x < 18446744073709551616) :
    Calls Tryz.prog 187 #[.int .i64 k, .int .u64 x] w fun e w' => e = .returned (.bool (Wd.isB k x)) ∧ w' = w := by
  by_cases hk : 1 ≤ k ∧ k ≤ 11
  · have hw : 0 < Wd.wid k := by unfold Wd.wid; repeat' split
                                 all_goals omega
    have hi : Wd.isB k x = (Wd.canon k x == x) := by simp [Wd.isB, hk]
    have Hi : Hid (_ = _) := hi
    clear hi hk
    go_enter Tryz.func187, Tryz.ntmps187
    go_wp2_with (first | (go_at_call 140; refine (width_any _ _).mono ?_; rintro e w' ⟨rfl, rfl⟩) | (go_at_call 137; refine (canon_any _ _ _ (by assumption) (by assumption)).mono ?_; rintro e w' ⟨rfl, rfl⟩))
    go_ret
    exact ⟨ret_bool Hi.out.symm, rfl⟩
  · have hw : ¬ 0 < Wd.wid k := by unfold Wd.wid; repeat' split
                                   all_goals omega
    have hi : Wd.isB k x = false := by unfold Wd.isB; rw [Bool.and_eq_false_iff]; left; simp; omega
    have Hi : Hid (_ = _) := hi
    clear hi hk
    go_enter Tryz.func187, Tryz.ntmps187
    go_wp2_with (first | (go_at_call 140; refine (width_any _ _).mono ?_; rintro e w' ⟨rfl, rfl⟩) | (go_at_call 137; refine (canon_any _ _ _ (by assumption) (by assumption)).mono ?_; rintro e w' ⟨rfl, rfl⟩))
    go_ret
    exact ⟨ret_bool Hi.out.symm, rfl⟩

end Go.Proofs.YtdklaeppcjopoaaGreat

/- The small functions of the page's own words (package gantryref1), and word.Bytes: contracts, by the same plain functions as package word's. -/
namespace Go.Proofs.YtdklaeppcjopoaaGreat
open Go.RowKit
set_option linter.unusedVariables false

namespace Wd
def by' (k : Int) : Int := (wid k + 7) / 8
end Wd

namespace Wd
def wordB (k : Int) : Bool := decide (1 ≤ k) && decide (k ≤ 11)
end Wd

set_option maxHeartbeats 400000 in
theorem bytes_any (k : Int) (w : World) :
    Calls Tryz.prog 136 #[.int .i64 k] w fun e w' => e = .returned (.int .i64 (Wd.by' k)) ∧ w' = w := by
  have h1 : 0 ≤ Wd.wid k := by unfold Wd.wid; repeat' split
                               all_goals omega
  have h2 : Wd.wid k ≤ 64 := by unfold Wd.wid; repeat' split
                                all_goals omega
  go_enter Tryz.func136, Tryz.ntmps136
  go_wp2_with (go_at_call 140; refine (width_any _ _).mono ?_; rintro e w' ⟨rfl, rfl⟩)
  go_ret
  exact ⟨rfl, rfl⟩

end Go.Proofs.YtdklaeppcjopoaaGreat

/- Bytes and memories: what a row of bytes holds, as a function of the index; what a number's bytes are. No Go here. -/
namespace Go.Proofs.YtdklaeppcjopoaaGreat
open Go.RowKit
set_option linter.unusedVariables false

namespace Mm
/-- the number that n bytes from a on are, the lowest one first -/
def ld (m : Nat → Int) (a : Nat) : Nat → Int
  | 0 => 0
  | n + 1 => ld m a n + m (a + n) * 256 ^ n
/-- a number's byte -/
def by8 (x : Int) (i : Nat) : Int := x / 256 ^ i % 256
/-- n bytes g laid from a on -/
def pt (m : Nat → Int) (a n : Nat) (g : Nat → Int) : Nat → Int := fun i => if a ≤ i ∧ i < a + n then g (i - a) else m i
/-- do all numbers fit a byte? -/
def Fit (m : Nat → Int) : Prop := ∀ i, 0 ≤ m i ∧ m i < 256

theorem mod_mul (x a b : Int) (ha : 0 < a) (hb : 0 < b) : x % (a * b) = x % a + a * (x / a % b) := by
  have h1 := Int.mul_ediv_add_emod x a
  have h2 := Int.mul_ediv_add_emod (x / a) b
  have h3 := Int.emod_nonneg x (show a ≠ 0 by omega)
  have h4 := Int.emod_lt_of_pos x ha
  have h5 := Int.emod_nonneg (x / a) (show b ≠ 0 by omega)
  have h6 := Int.emod_lt_of_pos (x / a) hb
  have e : x = (x % a + a * (x / a % b)) + a * b * (x / a / b) := by
    have : a * (x / a) = a * (b * (x / a / b)) + a * (x / a % b) := by rw [← Int.mul_add, h2]
    rw [Int.mul_assoc]; omega
  have k1 : 0 ≤ a * (x / a % b) := Int.mul_nonneg (by omega) h5
  have k2 : a * (x / a % b) ≤ a * (b - 1) := Int.mul_le_mul_of_nonneg_left (by omega) (by omega)
  rw [Int.mul_sub, Int.mul_one] at k2
  have k3 : (x % a + a * (x / a % b) + a * b * (x / a / b)) % (a * b) = x % a + a * (x / a % b) := by
    rw [Int.add_mul_emod_self_left]
    exact Int.emod_eq_of_lt (by omega) (by omega)
  rw [← e] at k3
  exact k3
theorem pow_pos (n : Nat) : (0 : Int) < 256 ^ n := Int.pow_pos (by omega)
theorem ld_succ (m : Nat → Int) (a n : Nat) : ld m a (n + 1) = ld m a n + m (a + n) * 256 ^ n := rfl
theorem ld_rng {m : Nat → Int} (hm : Fit m) (a n : Nat) : 0 ≤ ld m a n ∧ ld m a n < 256 ^ n := by
  induction n with
  | zero => simp [ld]
  | succ n ih =>
    have hp := pow_pos n
    have h := hm (a + n)
    rw [ld_succ, Int.pow_succ]
    have h1 : 0 ≤ m (a + n) * 256 ^ n := Int.mul_nonneg h.1 (by omega)
    have h2 : m (a + n) * 256 ^ n ≤ 255 * 256 ^ n := Int.mul_le_mul_of_nonneg_right (by omega) (by omega)
    omega
theorem ld_congr {m m' : Nat → Int} {a a' n : Nat} (h : ∀ i, i < n → m (a + i) = m' (a' + i)) : ld m a n = ld m' a' n := by
  induction n with
  | zero => rfl
  | succ n ih => rw [ld_succ, ld_succ, ih (fun i hi => h i (by omega)), h n (by omega)]
theorem ld_shift (m : Nat → Int) (a n : Nat) : ld m a n = ld (fun i => m (a + i)) 0 n := ld_congr fun i _ => by simp
theorem by8_rng (x : Int) (i : Nat) : 0 ≤ by8 x i ∧ by8 x i < 256 := by unfold by8; omega
theorem by8_fit (x : Int) : Fit (by8 x) := by8_rng x
theorem pt_fit {m g : Nat → Int} (hm : Fit m) (hg : Fit g) (a n : Nat) : Fit (pt m a n g) := by
  intro i; unfold pt; split
  · exact hg _
  · exact hm _
theorem ld_by8 (x : Int) (n : Nat) : ld (by8 x) 0 n = x % 256 ^ n := by
  induction n with
  | zero => simp [ld, Int.emod_one]
  | succ n ih =>
    rw [ld_succ, ih, Nat.zero_add, Int.pow_succ, mod_mul _ _ _ (pow_pos n) (by omega)]
    unfold by8
    rw [Int.mul_comm]
theorem pt_out {m g : Nat → Int} {a n i : Nat} (h : i < a ∨ a + n ≤ i) : pt m a n g i = m i := by
  unfold pt; rw [if_neg (by omega)]
theorem pt_zero (m g : Nat → Int) (a : Nat) : pt m a 0 g = m := by
  funext i; unfold pt; rw [if_neg (by omega)]
theorem pt_succ (m g : Nat → Int) (a n : Nat) : (fun j => if j = a + n then g n else pt m a n g j) = pt m a (n + 1) g := by
  funext i
  unfold pt
  by_cases h : i = a + n
  · subst h; rw [if_pos rfl, if_pos (by omega)]; congr 1; omega
  · rw [if_neg h]
    by_cases h2 : a ≤ i ∧ i < a + n
    · rw [if_pos h2, if_pos (by omega)]
    · rw [if_neg h2, if_neg (by omega)]
theorem by8_mod (x : Int) (i n : Nat) (h : i < n) : by8 (x % 256 ^ n) i = by8 x i := by
  unfold by8
  obtain ⟨d, rfl⟩ : ∃ d, n = i + 1 + d := ⟨n - (i + 1), by omega⟩
  rw [Int.pow_add, Int.pow_succ]
  have hp := pow_pos i
  have hd := pow_pos d
  rw [show (256 : Int) ^ i * 256 * 256 ^ d = 256 ^ i * (256 * 256 ^ d) by rw [Int.mul_assoc]]
  rw [mod_mul _ _ _ hp (by omega), Int.add_mul_ediv_left _ _ (by omega), Int.ediv_eq_zero_of_lt (Int.emod_nonneg _ (by omega)) (Int.emod_lt_of_pos _ hp), Int.zero_add,
    Int.emod_emod_of_dvd _ ⟨256 ^ d, rfl⟩]
theorem pt_congr {m g g' : Nat → Int} {a n : Nat} (h : ∀ i, i < n → g i = g' i) : pt m a n g = pt m a n g' := by
  funext i; unfold pt; split
  · exact h _ (by omega)
  · rfl
end Mm

namespace Mm
theorem toNat_small {n : Nat} {a : Nat} (h : a < 2 ^ n) : (BitVec.ofInt n (a : Int)).toNat = a := by
  rw [BitVec.toNat_ofInt]
  have e : (a : Int) % ((2 ^ n : Nat) : Int) = ((a % 2 ^ n : Nat) : Int) := by rw [Int.natCast_emod]
  rw [e, Int.toNat_natCast, Nat.mod_eq_of_lt h]
theorem wrap_small {k : IntKind} (hk : k.signed = false) {a : Nat} (h : a < 2 ^ k.bits) : k.wrap (a : Int) = a := by
  unfold IntKind.wrap
  have e : (a : Int) % 2 ^ k.bits = (a : Int) := by
    refine Int.emod_eq_of_lt (Int.natCast_nonneg _) ?_
    have : ((a : Nat) : Int) < ((2 ^ k.bits : Nat) : Int) := by exact_mod_cast h
    simpa using this
  simp [hk, e]
theorem bits_or {k : IntKind} (hk : k.signed = false) {a c : Nat} (ha : a < 2 ^ k.bits) (hc : c < 2 ^ k.bits) : bits .or k (a : Int) (c : Int) = ((a ||| c : Nat) : Int) := by
  show k.wrap ((BitVec.ofInt k.bits (a : Int) ||| BitVec.ofInt k.bits (c : Int)).toNat : Int) = _
  rw [BitVec.toNat_or, toNat_small ha, toNat_small hc]
  exact wrap_small hk (Nat.or_lt_two_pow ha hc)
theorem bits_and {k : IntKind} (hk : k.signed = false) {a c : Nat} (ha : a < 2 ^ k.bits) (hc : c < 2 ^ k.bits) : bits .and k (a : Int) (c : Int) = ((a &&& c : Nat) : Int) := by
  show k.wrap ((BitVec.ofInt k.bits (a : Int) &&& BitVec.ofInt k.bits (c : Int)).toNat : Int) = _
  rw [BitVec.toNat_and, toNat_small ha, toNat_small hc]
  exact wrap_small hk (Nat.lt_of_le_of_lt Nat.and_le_left ha)
/-- bits that lie apart: the sum -/
theorem or_high {k : IntKind} (hk : k.signed = false) {x y : Int} {j : Nat} (x1 : 0 ≤ x) (x2 : x < 2 ^ j) (y1 : 0 ≤ y) (h : x + y * 2 ^ j < 2 ^ k.bits) : bits .or k x (y * 2 ^ j) = x + y * 2 ^ j := by
  obtain ⟨a, rfl⟩ := Int.eq_ofNat_of_zero_le x1
  obtain ⟨c, rfl⟩ := Int.eq_ofNat_of_zero_le y1
  have x2' : a < 2 ^ j := by exact_mod_cast x2
  have h' : a + c * 2 ^ j < 2 ^ k.bits := by exact_mod_cast h
  have e : ((c : Int) * 2 ^ j) = ((c * 2 ^ j : Nat) : Int) := by simp
  rw [e, bits_or hk (by omega) (by omega), Nat.or_comm, ← Nat.shiftLeft_eq, ← Nat.shiftLeft_add_eq_or_of_lt x2']
  rw [Nat.shiftLeft_eq]; omega
theorem pow8 (k : Nat) : (2 : Int) ^ (8 * k) = 256 ^ k := by rw [Int.pow_mul]; rfl
/-- one byte more, as the loop lays it -/
theorem read_step {kd : IntKind} (hk : kd.signed = false) {x y : Int} {k : Nat} (x1 : 0 ≤ x) (x2 : x < 256 ^ k) (y1 : 0 ≤ y) (y2 : y < 256) (h : 256 ^ (k + 1) ≤ (2 : Int) ^ kd.bits) :
    bits .or kd x (kd.wrap (y * 2 ^ (8 * k))) = x + y * 256 ^ k := by
  have hp := pow_pos k
  rw [Int.pow_succ] at h
  have h2 : y * 256 ^ k ≤ 255 * 256 ^ k := Int.mul_le_mul_of_nonneg_right (by omega) (by omega)
  have h1 : 0 ≤ y * 256 ^ k := Int.mul_nonneg y1 (by omega)
  have e : kd.wrap (y * 2 ^ (8 * k)) = y * 2 ^ (8 * k) := by
    rw [pow8]
    obtain ⟨c, hc⟩ := Int.eq_ofNat_of_zero_le h1
    rw [hc]; refine wrap_small hk ?_
    have : ((c : Nat) : Int) < 2 ^ kd.bits := by omega
    exact_mod_cast this
  rw [e, or_high hk x1 (by rw [pow8]; exact x2) y1 (by rw [pow8]; omega), pow8]
end Mm

/-- the n cells from the address on hold the bytes g -/
def Bs (w : World) (ao : Option Addr) (n : Nat) (g : Nat → Int) : Prop :=
  n = 0 ∨ ∃ b off, ao = some ⟨b, off, none⟩ ∧ ∀ i, i < n → w.cell? ⟨b, off + i, none⟩ = some (.int .u8 (g i))

/-- a memory: the struct's block B holds a slice of all S bytes that lie in block D -/
structure IsMem (t : TypeId) (w : World) (B D S : Nat) (m : Nat → Int) : Prop where
  head : w.rowIs B t 1 (fun _ => .slice (some ⟨D, 0, none⟩) S S)
  row : w.rowIs D 5 S (fun i => .int .u8 (m i))
  fit : Mm.Fit m

theorem IsMem.kept {t : TypeId} {w w' : World} {B D S : Nat} {m : Nat → Int} {row : Option Nat} (h : IsMem t w B D S m) (hg : w.grownBy w' row) (h1 : some B ≠ row) (h2 : some D ≠ row) : IsMem t w' B D S m :=
  ⟨h.head.of_block (hg.block B h.head.lt h1), h.row.of_block (hg.block D h.row.lt h2), h.fit⟩

theorem grown_trans {w w' w'' : World} {row : Option Nat} (h : w.grownBy w' row) (k : w'.grownBy w'' row) : w.grownBy w'' row :=
  ⟨k.os.trans h.os, k.tape.trans h.tape, k.output.trans h.output, Nat.le_trans h.size k.size, fun i hi hr => (k.block i (Nat.lt_of_lt_of_le hi h.size) hr).trans (h.block i hi hr)⟩
theorem grown_setCell (w : World) (b i : Nat) (v : Value) : w.grownBy (w.setCell ⟨b, i, none⟩ v) (some b) :=
  ⟨rfl, rfl, rfl, by simp [World.setCell], fun k hk hr => Below.heap_setCell _ _ _ _ (fun e => hr (by rw [e]))⟩
theorem grown_drewN {w w' : World} {row : Option Nat} (h : w.grownBy w' row) (n : Nat) : w.grownBy (w'.drewN n) row := by
  refine grown_trans h ?_
  induction n with
  | zero => exact ⟨rfl, rfl, rfl, Nat.le_refl _, fun _ _ _ => rfl⟩
  | succ n ih => exact grown_trans ih ⟨rfl, rfl, rfl, Nat.le_refl _, fun _ _ _ => rfl⟩
end Go.Proofs.YtdklaeppcjopoaaGreat

/- Instructions of R64 by the page's rows, as plain functions on integers: which there are, their bytes, and back. No Go here. -/
namespace Go.Proofs.YtdklaeppcjopoaaGreat
set_option linter.unusedVariables false

/-- an instruction's nine numbers -/
structure InV where
  op : Int
  a : Int
  b : Int
  c : Int
  k : Int
  sub : Int
  scale : Int
  imm : Int
  label : Int

namespace Rc
/-- which fields a code uses: the page's letters -/
def fld (op : Int) : ByteArray :=
  if op = 1 ∨ op = 2 ∨ op = 20 ∨ op = 21 then ⟨#[65, 73]⟩ else if op = 3 ∨ op = 26 then ⟨#[65, 66]⟩ else if op = 4 then ⟨#[65, 66, 67, 75, 83]⟩
  else if op = 7 ∨ op = 8 then ⟨#[65, 66, 75, 83]⟩ else if op = 9 then ⟨#[65, 66, 73]⟩ else if op = 11 ∨ op = 13 then ⟨#[65, 66, 75, 73]⟩
  else if op = 15 then ⟨#[65, 66, 67, 73]⟩ else if op = 19 ∨ op = 23 ∨ op = 25 ∨ op = 29 then ⟨#[73]⟩ else if op = 27 ∨ op = 28 then ⟨#[65]⟩ else if op = 24 then ⟨#[45]⟩ else ⟨#[]⟩
def hasS (s : ByteArray) (c : Int) : Bool := s.data.toList.any (fun b => (b.toNat : Int) == c)
def regB (n : Int) : Bool := decide (0 ≤ n) && decide (n < 16)
def smallB (n : Int) : Bool := decide (-2147483648 ≤ n) && decide (n < 2147483648)
def kindB (v : InV) : Bool :=
  if v.op = 4 then Wd.hasBinB v.sub v.k else if v.op = 7 then Wd.hasUnB v.sub v.k else if v.op = 8 then Wd.numB v.sub && Wd.numB v.k else if v.op = 11 ∨ v.op = 13 then Wd.wordB v.k
  else if v.op = 15 then decide (0 ≤ v.imm) && decide (v.imm < 16) else if v.op = 25 then decide (0 ≤ v.imm) else if v.op = 29 then decide (0 < v.imm) else true
/-- is it an instruction of R64? -/
def mayB (v : InV) : Bool :=
  !(fld v.op).data.isEmpty && v.scale == 0 && v.label == 0 && regB v.a && regB v.b && regB v.c && smallB v.imm &&
  (hasS (fld v.op) 65 || v.a == 0) && (hasS (fld v.op) 66 || v.b == 0) && (hasS (fld v.op) 67 || v.c == 0) && (hasS (fld v.op) 75 || v.k == 0) && (hasS (fld v.op) 83 || v.sub == 0) && (hasS (fld v.op) 73 || v.imm == 0) && kindB v
def cc (v : InV) : Int := if v.op = 11 ∨ v.op = 13 then v.k else v.c
def nn (v : InV) : Int := if v.op = 4 ∨ v.op = 7 ∨ v.op = 8 then v.k + 256 * v.sub else v.imm
/-- its bytes -/
def enc (v : InV) (i : Nat) : Int :=
  if i = 0 then v.op % 256 else if i = 1 then v.a % 256 else if i = 2 then v.b % 256 else if i = 3 then cc v % 256 else Mm.by8 (nn v % 4294967296) (i - 4)
/-- a number of 32 bits, signed -/
def s32 (u : Int) : Int := (u + 2147483648) % 4294967296 - 2147483648
/-- what eight bytes say, if that is an instruction -/
def rd (g : Nat → Int) : InV :=
  let n := s32 (Mm.ld g 4 4)
  if g 0 = 4 ∨ g 0 = 7 ∨ g 0 = 8 then ⟨g 0, g 1, g 2, g 3, n % 256, n / 256, 0, 0, 0⟩
  else if g 0 = 11 ∨ g 0 = 13 then ⟨g 0, g 1, g 2, 0, g 3, 0, 0, n, 0⟩ else ⟨g 0, g 1, g 2, g 3, 0, 0, 0, n, 0⟩
def wideB (g : Nat → Int) : Bool := (g 0 == 4 || g 0 == 7 || g 0 == 8) && (decide (s32 (Mm.ld g 4 4) < 0) || decide (65536 ≤ s32 (Mm.ld g 4 4)))
def okB (g : Nat → Int) : Bool := !wideB g && mayB (rd g)

theorem codes (v : InV) (h : mayB v = true) : v.op = 1 ∨ v.op = 2 ∨ v.op = 3 ∨ v.op = 4 ∨ v.op = 7 ∨ v.op = 8 ∨ v.op = 9 ∨ v.op = 11 ∨ v.op = 13 ∨ v.op = 15 ∨ v.op = 19 ∨ v.op = 20 ∨ v.op = 21 ∨ v.op = 23 ∨ v.op = 24 ∨ v.op = 25 ∨ v.op = 26 ∨ v.op = 27 ∨ v.op = 28 ∨ v.op = 29 := by
  by_cases hh : (v.op = 1 ∨ v.op = 2 ∨ v.op = 3 ∨ v.op = 4 ∨ v.op = 7 ∨ v.op = 8 ∨ v.op = 9 ∨ v.op = 11 ∨ v.op = 13 ∨ v.op = 15 ∨ v.op = 19 ∨ v.op = 20 ∨ v.op = 21 ∨ v.op = 23 ∨ v.op = 24 ∨ v.op = 25 ∨ v.op = 26 ∨ v.op = 27 ∨ v.op = 28 ∨ v.op = 29)
  · exact hh
  · exfalso
    have e : fld v.op = ⟨#[]⟩ := by
      unfold fld
      rw [if_neg (by omega), if_neg (by omega), if_neg (by omega), if_neg (by omega), if_neg (by omega), if_neg (by omega), if_neg (by omega), if_neg (by omega), if_neg (by omega), if_neg (by omega)]
    unfold mayB at h
    rw [e] at h
    simp at h

theorem ld_enc (v : InV) : Mm.ld (enc v) 4 4 = nn v % 4294967296 := by
  have h : Mm.ld (enc v) 4 4 = Mm.ld (Mm.by8 (nn v % 4294967296)) 0 4 := Mm.ld_congr fun i hi => by
    unfold enc
    rw [if_neg (by omega), if_neg (by omega), if_neg (by omega), if_neg (by omega)]
    congr 1; omega
  rw [h, Mm.ld_by8]
  omega
theorem s32_mod (n : Int) (h1 : -2147483648 ≤ n) (h2 : n < 2147483648) : s32 (n % 4294967296) = n := by unfold s32; omega

/-- the ranges of an instruction's numbers -/
structure Rng (v : InV) : Prop where
  sc : v.scale = 0
  lb : v.label = 0
  a1 : 0 ≤ v.a
  a2 : v.a < 16
  b1 : 0 ≤ v.b
  b2 : v.b < 16
  c1 : 0 ≤ v.c
  c2 : v.c < 16
  i1 : -2147483648 ≤ v.imm
  i2 : v.imm < 2147483648
  u0 : hasS (fld v.op) 65 = true ∨ v.a = 0
  u1 : hasS (fld v.op) 66 = true ∨ v.b = 0
  u2 : hasS (fld v.op) 67 = true ∨ v.c = 0
  u3 : hasS (fld v.op) 75 = true ∨ v.k = 0
  u4 : hasS (fld v.op) 83 = true ∨ v.sub = 0
  u5 : hasS (fld v.op) 73 = true ∨ v.imm = 0
  kd : kindB v = true
theorem rng {v : InV} (h : mayB v = true) : Rng v := by
  unfold mayB regB smallB at h
  simp only [Bool.and_eq_true, Bool.or_eq_true, beq_iff_eq, decide_eq_true_eq] at h
  obtain ⟨⟨⟨⟨⟨⟨⟨⟨⟨⟨⟨⟨⟨h0, h1⟩, h2⟩, h3⟩, h4⟩, h5⟩, h6⟩, h7⟩, h8⟩, h9⟩, h10⟩, h11⟩, h12⟩, h13⟩ := h
  exact ⟨h1, h2, h3.1, h3.2, h4.1, h4.2, h5.1, h5.2, h6.1, h6.2, h7, h8, h9, h10, h11, h12, h13⟩

theorem bin_rng {op k : Int} (h : Wd.hasBinB op k = true) : 1 ≤ op ∧ op ≤ 16 ∧ 1 ≤ k ∧ k ≤ 11 := by
  unfold Wd.hasBinB Wd.intB Wd.cmpB at h; simp at h; omega
theorem un_rng {op k : Int} (h : Wd.hasUnB op k = true) : 1 ≤ op ∧ op ≤ 3 ∧ 1 ≤ k ∧ k ≤ 11 := by
  unfold Wd.hasUnB Wd.numB Wd.intB at h; simp at h; omega

theorem conv_rng {f t : Int} (h : (Wd.numB f && Wd.numB t) = true) : 2 ≤ f ∧ f ≤ 10 ∧ 2 ≤ t ∧ t ≤ 10 := by
  unfold Wd.numB at h; simp at h; omega
theorem word_rng {k : Int} (h : Wd.wordB k = true) : 1 ≤ k ∧ k ≤ 11 := by unfold Wd.wordB at h; simpa using h

/-- its bytes say it -/
theorem back (v : InV) (h : mayB v = true) : rd (enc v) = v ∧ wideB (enc v) = false := by
  have r := rng h
  have hc := codes v h
  have e0 : enc v 0 = v.op := by show v.op % 256 = _; omega
  have e1 : enc v 1 = v.a := by show v.a % 256 = _; have := r.a1; have := r.a2; omega
  have e2 : enc v 2 = v.b := by show v.b % 256 = _; have := r.b1; have := r.b2; omega
  have e3 : enc v 3 = cc v % 256 := rfl
  obtain ⟨op, a, b, c, k, sub, sc, imm, lb⟩ := v
  obtain ⟨h1, h2, a1, a2, b1, b2, c1, c2, i1, i2, u0, u1, u2, u3, u4, u5, kd⟩ := r
  dsimp only at *
  subst h1 h2
  rcases hc with rfl | rfl | rfl | rfl | rfl | rfl | rfl | rfl | rfl | rfl | rfl | rfl | rfl | rfl | rfl | rfl | rfl | rfl | rfl | rfl
  all_goals try (replace u0 := u0.resolve_left (by decide))
  all_goals try (replace u1 := u1.resolve_left (by decide))
  all_goals try (replace u2 := u2.resolve_left (by decide))
  all_goals try (replace u3 := u3.resolve_left (by decide))
  all_goals try (replace u4 := u4.resolve_left (by decide))
  all_goals try (replace u5 := u5.resolve_left (by decide))
  all_goals try (replace kd := bin_rng (show Wd.hasBinB sub k = true from kd))
  all_goals try (replace kd := un_rng (show Wd.hasUnB sub k = true from kd))
  all_goals try (replace kd := conv_rng (show (Wd.numB sub && Wd.numB k) = true from kd))
  all_goals try (replace kd := word_rng (show Wd.wordB k = true from kd))
  all_goals
    unfold rd wideB
    rw [e0, e1, e2, e3, ld_enc]
    simp only [nn, cc, Int.reduceEq, or_self, or_false, or_true, if_true, if_false]
    rw [s32_mod _ (by omega) (by omega)]
    refine ⟨?_, ?_⟩
    · simp only [InV.mk.injEq, true_and, and_true]; omega
    · first | rfl | (simp; done) | (simp; omega)
theorem ok_enc (v : InV) (h : mayB v = true) : okB (enc v) = true := by
  have b := back v h
  unfold okB; rw [b.1, b.2, h]; rfl
theorem rd_congr {g g' : Nat → Int} (h : ∀ i, i < 8 → g i = g' i) : rd g = rd g' ∧ okB g = okB g' := by
  have l : Mm.ld g 4 4 = Mm.ld g' 4 4 := Mm.ld_congr fun i hi => h _ (by omega)
  have r : rd g = rd g' := by unfold rd; rw [l, h 0 (by omega), h 1 (by omega), h 2 (by omega), h 3 (by omega)]
  refine ⟨r, ?_⟩
  unfold okB wideB
  rw [r, l, h 0 (by omega)]
/-- no two instructions have the same bytes -/
theorem inj {u v : InV} (hu : mayB u = true) (hv : mayB v = true) (h : ∀ i, i < 8 → enc u i = enc v i) : u = v := by
  rw [← (back u hu).1, ← (back v hv).1, (rd_congr h).1]
end Rc
end Go.Proofs.YtdklaeppcjopoaaGreat

/- Instructions of C64 by the page's rows, as plain functions on integers: which there are, their bytes, and back. No Go here. -/
namespace Go.Proofs.YtdklaeppcjopoaaGreat
set_option linter.unusedVariables false

namespace Cc
/-- what a code's bytes are: the page's letters -/
def row (op : Int) : List Int :=
  if op = 1 then [110, 105] else if op = 3 ∨ op = 26 ∨ op = 27 ∨ op = 28 then [97] else if op = 4 ∨ op = 7 ∨ op = 8 then [97, 75, 83] else if op = 5 then [110, 75, 83, 105]
  else if op = 6 then [97, 75, 83, 52] else if op = 10 then [97, 99, 52] else if op = 11 ∨ op = 13 then [97, 75, 52] else if op = 12 ∨ op = 14 then [97, 99, 75, 52]
  else if op = 15 ∨ op = 18 then [97, 83] else if op = 16 then [97, 75] else if op = 17 then [110, 75, 105] else if op = 19 then [106, 105] else if op = 22 then [74, 105]
  else if op = 23 ∨ op = 25 ∨ op = 29 then [52] else if op = 24 then [45] else []
/-- does a letter of a code's row use a field? -/
def useL (op l c : Int) : Bool :=
  if l = 97 then c == 65 || (c == 66 && op != 7 && op != 27 && op != 28 && op != 18) else if l = 110 then c == 65 else if l = 99 then c == 67 else if l = 75 then c == 75
  else if l = 83 ∨ l = 74 then c == 83 else if l = 105 ∨ l = 52 then c == 73 else false
def usesB (op c : Int) : Bool := (row op).any fun l => useL op l c
/-- may Imm be an operand of a kind's operation? -/
def immB (sub k n : Int) : Bool :=
  Wd.intB k && Wd.hasBinB sub k && sub != 4 && sub != 5 && Rc.smallB n && (Rc.s32 (Wd.canon (if Wd.shB sub then 9 else k) (n % 18446744073709551616)) == n)
def binB (v : InV) : Bool :=
  Wd.hasBinB v.sub v.k && (if Wd.shB v.sub then v.b == 1 && v.a != 1 else if Wd.intB v.k && (v.sub == 4 || v.sub == 5) then v.a == 0 && v.b != 0 && v.b != 2 else true)
def sclB (v : InV) : Bool := v.scale == 1 || v.scale == 2 || v.scale == 4 || v.scale == 8 || (v.scale == 0 && v.c == 0 && v.op == 10)
def kindB (v : InV) : Bool :=
  if v.op = 4 then binB v else if v.op = 5 then immB v.sub v.k v.imm else if v.op = 6 then Wd.hasBinB v.sub v.k && !Wd.shB v.sub && (!Wd.intB v.k || (v.sub != 4 && v.sub != 5))
  else if v.op = 7 then Wd.hasUnB v.sub v.k else if v.op = 8 then Wd.numB v.sub && Wd.numB v.k else if v.op = 10 then sclB v else if v.op = 12 ∨ v.op = 14 then sclB v && Wd.wordB v.k
  else if v.op = 11 ∨ v.op = 13 ∨ v.op = 16 then Wd.wordB v.k else if v.op = 17 then immB 2 v.k v.imm else if v.op = 15 ∨ v.op = 18 ∨ v.op = 22 then Wd.cmpB v.sub
  else if v.op = 25 then decide (0 ≤ v.imm) else if v.op = 29 then decide (0 < v.imm) else true
/-- is it an instruction of C64? -/
def mayB (v : InV) : Bool :=
  !(row v.op).isEmpty && v.label == 0 && Rc.regB v.a && Rc.regB v.b && Rc.regB v.c && (usesB v.op 65 || v.a == 0) && (usesB v.op 66 || v.b == 0) && (usesB v.op 67 || (v.c == 0 && v.scale == 0)) &&
  (usesB v.op 75 || v.k == 0) && (usesB v.op 83 || v.sub == 0) && (usesB v.op 73 || v.imm == 0) && (v.op == 1 || Rc.smallB v.imm) && kindB v

/-- the size of Imm, and how many bytes a size has -/
def size (n : Int) : Int := if -128 ≤ n ∧ n < 128 then 0 else if -2147483648 ≤ n ∧ n < 2147483648 then 1 else 2
def cnt (s : Int) : Nat := if s = 0 then 1 else if s = 1 then 4 else 8
def lg (s : Int) : Int := if s = 1 then 0 else if s = 2 then 1 else if s = 4 then 2 else if s = 8 then 3 else 15
def low (n : Int) (c : Nat) : List Int := (List.range c).map (Mm.by8 (n % 18446744073709551616))
/-- a letter's bytes -/
def letB (v : InV) (l : Int) : List Int :=
  if l = 97 then [(16 * v.a + v.b) % 256] else if l = 110 then [(16 * v.a + size v.imm) % 256] else if l = 106 then [size v.imm % 256] else if l = 74 then [(16 * (v.sub - 11) + size v.imm) % 256]
  else if l = 99 then [(16 * v.c + lg v.scale) % 256] else if l = 75 then [v.k % 256] else if l = 83 then [v.sub % 256] else if l = 105 then low v.imm (cnt (size v.imm)) else if l = 52 then low v.imm 4 else []
/-- its bytes -/
def enc (v : InV) : List Int := v.op % 256 :: (row v.op).flatMap (letB v)

/-- a signed number of c bytes -/
def num (g : Nat → Int) (at' c : Nat) : Int :=
  if c = 1 then (Mm.ld g at' 1 + 128) % 256 - 128 else if c = 4 then Rc.s32 (Mm.ld g at' 4) else Wd.sg (Mm.ld g at' 8)
def scl (n : Int) : Int := if n = 0 then 1 else if n = 1 then 2 else if n = 2 then 4 else if n = 3 then 8 else if n = 15 then 0 else -1
/-- how many bytes a letter takes -/
def lcnt (l s : Int) : Nat := if l = 105 then cnt s else if l = 52 then 4 else 1
/-- what a letter's bytes say of the instruction -/
def lset (l : Int) (v : InV) (x y : Int) : InV :=
  if l = 97 then { v with a := x / 16, b := x % 16 } else if l = 110 then { v with a := x / 16 } else if l = 106 then v else if l = 74 then { v with sub := x / 16 + 11 }
  else if l = 99 then { v with c := x / 16, scale := scl (x % 16) } else if l = 75 then { v with k := x } else if l = 83 then { v with sub := x } else { v with imm := y }
/-- .. and of the size -/
def lsz (l s x : Int) : Int := if l = 110 ∨ l = 74 then x % 16 else if l = 106 then x else s
/-- bytes read by a row: the instruction, and how many they are; 0: they end too early; -1: a size that is none -/
def rdL (N : Nat) (g : Nat → Int) : List Int → InV → Int → Nat → InV × Int
  | [], v, _, p => (v, p)
  | l :: s, v, z, p =>
    if N < p + lcnt l z then (v, 0)
    else if 2 < lsz l z (g p) ∨ (lsz l z (g p) = 2 ∧ v.op ≠ 1) then (lset l v (g p) (num g p (lcnt l z)), -1)
    else rdL N g s (lset l v (g p) (num g p (lcnt l z))) (lsz l z (g p)) (p + lcnt l z)
/-- the letters that are read -/
def rrow (op : Int) : List Int := if op = 24 then [] else row op
def read (N : Nat) (g : Nat → Int) : InV × Int := rdL N g (rrow (g 0)) ⟨g 0, 0, 0, 0, 0, 0, 0, 0, 0⟩ 0 1
def zero : InV := ⟨0, 0, 0, 0, 0, 0, 0, 0, 0⟩
/-- are the first bytes just these? -/
def startsB (l : List Int) (g : Nat → Int) : Bool := decide (∀ i, i < l.length → g i = l.getD i 0)
/-- what any bytes are told to be: the instruction, how many, the error -/
def dec (N : Nat) (g : Nat → Int) : InV × Int × Int :=
  if N = 0 then (zero, 0, 41) else if (row (g 0)).isEmpty then (zero, 0, 40) else if (read N g).2 = 0 then (zero, 0, 41)
  else if (read N g).2 < 0 ∨ mayB (read N g).1 = false ∨ (((enc (read N g).1).length : Int) ≠ (read N g).2 ∨ startsB (enc (read N g).1) g = false) then (zero, 0, 40) else ((read N g).1, (read N g).2, 0)

/-- only the bytes that are read matter -/
theorem rd_congr {N : Nat} {g g' : Nat → Int} (h : ∀ i, i < N → g i = g' i) : ∀ (s : List Int) (v : InV) (z : Int) (p : Nat), rdL N g s v z p = rdL N g' s v z p := by
  intro s
  induction s with
  | nil => intro v z p; rfl
  | cons l s ih =>
    intro v z p
    unfold rdL
    by_cases h1 : N < p + lcnt l z
    · rw [if_pos h1, if_pos h1]
    · have hl : 1 ≤ lcnt l z := by unfold lcnt cnt; repeat' split
                                   all_goals omega
      have e1 : g p = g' p := h p (by omega)
      have e2 : num g p (lcnt l z) = num g' p (lcnt l z) := by
        have hc : ∀ c, c ≤ lcnt l z → Mm.ld g p c = Mm.ld g' p c := fun c hc => Mm.ld_congr fun i hi => h _ (by omega)
        unfold num
        by_cases c1 : lcnt l z = 1
        · rw [if_pos c1, if_pos c1, hc 1 (by omega)]
        · by_cases c4 : lcnt l z = 4
          · rw [if_neg c1, if_neg c1, if_pos c4, if_pos c4, hc 4 (by omega)]
          · have : lcnt l z = 8 := by
              revert c1 c4; unfold lcnt cnt; repeat' split
              all_goals omega
            rw [if_neg c1, if_neg c1, if_neg c4, if_neg c4, hc 8 (by omega)]
      rw [if_neg h1, if_neg h1, e1, e2, ih]

/-- the bytes of Imm say it -/
theorem num_low {g : Nat → Int} {p c : Nat} {n : Int} (hc : (c = 1 ∧ -128 ≤ n ∧ n < 128) ∨ (c = 4 ∧ -2147483648 ≤ n ∧ n < 2147483648) ∨ (c = 8 ∧ -9223372036854775808 ≤ n ∧ n ≤ 9223372036854775807)) (h : ∀ i, i < c → g (p + i) = Mm.by8 (n % 18446744073709551616) i) : num g p c = n := by
  have e : Mm.ld g p c = (n % 18446744073709551616) % 256 ^ c := by
    rw [← Mm.ld_by8]
    exact Mm.ld_congr fun i hi => by rw [h i hi, Nat.zero_add]
  unfold num
  rcases hc with ⟨rfl, h1, h2⟩ | ⟨rfl, h1, h2⟩ | ⟨rfl, h1, h2⟩
  · rw [if_pos rfl, e]
    have : (256 : Int) ^ 1 = 256 := rfl
    omega
  · rw [if_neg (by decide), if_pos rfl, e]
    have : (256 : Int) ^ 4 = 4294967296 := rfl
    unfold Rc.s32; omega
  · rw [if_neg (by decide), if_neg (by decide), e]
    have : (256 : Int) ^ 8 = 18446744073709551616 := rfl
    unfold Wd.sg; omega

end Cc
end Go.Proofs.YtdklaeppcjopoaaGreat

/- What is reckoned of two ints: contracts. -/
namespace Go.Proofs.YtdklaeppcjopoaaGreat
open Go.RowKit

theorem cmpI_tr {op a b : Int} : Wd.cmpI op a b = 0 ∨ Wd.cmpI op a b = 1 := by
  unfold Wd.cmpI Wd.tr; repeat' split
  all_goals simp

set_option maxHeartbeats 400000 in
theorem compareU_any (op a b : Int) (w : World) :
    Calls Tryz.prog 202 #[.int .i64 op, .int .u64 a, .int .u64 b] w fun e w' => e = .returned (.int .u64 (Wd.cmpI op a b)) ∧ w' = w := by
  go_enter Tryz.func202, Tryz.ntmps202
  go_wp2
  all_goals (go_ret; refine ⟨ret_u64 ?_, rfl⟩; simp only [beq_iff_eq, beq_eq_false_iff_ne] at *; unfold Wd.cmpI Wd.tr; simp_all <;> omega)

set_option maxHeartbeats 400000 in
theorem compareI_any (op a b : Int) (w : World) :
    Calls Tryz.prog 201 #[.int .i64 op, .int .i64 a, .int .i64 b] w fun e w' => e = .returned (.int .u64 (Wd.cmpI op a b)) ∧ w' = w := by
  go_enter Tryz.func201, Tryz.ntmps201
  go_wp2
  all_goals (go_ret; refine ⟨ret_u64 ?_, rfl⟩; simp only [beq_iff_eq, beq_eq_false_iff_ne] at *; unfold Wd.cmpI Wd.tr; simp_all <;> omega)

end Go.Proofs.YtdklaeppcjopoaaGreat

/- binUnsigned, binSigned: contracts. -/
namespace Go.Proofs.YtdklaeppcjopoaaGreat
open Go.RowKit
set_option linter.unusedVariables false

theorem ops16 {op : Int} (h1 : 1 ≤ op) (h2 : op ≤ 16) : op = 1 ∨ op = 2 ∨ op = 3 ∨ op = 4 ∨ op = 5 ∨ op = 6 ∨ op = 7 ∨ op = 8 ∨ op = 9 ∨ op = 10 ∨ op = 11 ∨ op = 12 ∨ op = 13 ∨ op = 14 ∨ op = 15 ∨ op = 16 := by omega

theorem wrap_rng (x : Int) : 0 ≤ IntKind.u64.wrap x ∧ IntKind.u64.wrap x < 18446744073709551616 := by rw [IntKind.wrap_u64]; omega
theorem land_lt {a b : Int} (ha : 0 ≤ a) (ha2 : a < 18446744073709551616) (hb : 0 ≤ b) (hb2 : b < 18446744073709551616) : ((a.toNat &&& b.toNat : Nat) : Int) < 18446744073709551616 := by
  have := Nat.and_lt_two_pow (n := 64) a.toNat (y := b.toNat) (by omega); omega
theorem lor_lt {a b : Int} (ha : 0 ≤ a) (ha2 : a < 18446744073709551616) (hb : 0 ≤ b) (hb2 : b < 18446744073709551616) : ((a.toNat ||| b.toNat : Nat) : Int) < 18446744073709551616 := by
  have := Nat.or_lt_two_pow (n := 64) (x := a.toNat) (y := b.toNat) (by omega) (by omega); omega
theorem lxor_lt {a b : Int} (ha : 0 ≤ a) (ha2 : a < 18446744073709551616) (hb : 0 ≤ b) (hb2 : b < 18446744073709551616) : ((a.toNat ^^^ b.toNat : Nat) : Int) < 18446744073709551616 := by
  have := Nat.xor_lt_two_pow (n := 64) (x := a.toNat) (y := b.toNat) (by omega) (by omega); omega
theorem div_rng {x y : Int} (hx : 0 ≤ x) (hx2 : x < 18446744073709551616) (hy : 0 < y) : 0 ≤ x / y ∧ x / y < 18446744073709551616 :=
  ⟨Int.ediv_nonneg hx (by omega), Int.lt_of_le_of_lt (Int.ediv_le_self y hx) hx2⟩
theorem mod_rng {x y : Int} (hx : 0 ≤ x) (hy2 : y < 18446744073709551616) (hy : 0 < y) : 0 ≤ x % y ∧ x % y < 18446744073709551616 :=
  ⟨Int.emod_nonneg x (by omega), Int.lt_trans (Int.emod_lt_of_pos x hy) hy2⟩
theorem shr_rng {x : Int} (n : Nat) (hx : 0 ≤ x) (hx2 : x < 18446744073709551616) : 0 ≤ x / 2 ^ n ∧ x / 2 ^ n < 18446744073709551616 :=
  div_rng hx hx2 (Int.pow_pos (by omega))

set_option maxHeartbeats 1000000 in
theorem binU_any (op k x y : Int) (w : World) (hx : 0 ≤ x) (hx2 : x < 18446744073709551616) (hy : 0 ≤ y) (hy2 : y < 18446744073709551616) (h1 : 1 ≤ op) (h2 : op ≤ 16) (hz : op = 4 ∨ op = 5 → 0 < y) :
    Calls Tryz.prog 190 #[.int .i64 op, .int .i64 k, .int .u64 x, .int .u64 y] w fun e w' => e = .returned (.int .u64 (Wd.bu op k x y)) ∧ w' = w := by
  have Hz : Hid (op = 4 ∨ op = 5 → 0 < y) := hz
  clear hz
  rcases ops16 h1 h2 with h | h | h | h | h | h | h | h | h | h | h | h | h | h | h | h
  all_goals
    subst h
    first | have hy0 : 0 < y := Hz.out (by decide) | skip
    clear Hz h1 h2
    go_enter Tryz.func190, Tryz.ntmps190
    go_wp2_with (first | (go_at_call 197; go_in) | (go_at_call 202; refine (compareU_any _ _ _ _).mono ?_; rintro e w' ⟨rfl, rfl⟩))
    first
      | (go_ret; exact ⟨rfl, rfl⟩)
      | (refine (canon_any _ _ _ ?_ ?_).mono ?_
         · first | exact (wrap_rng _).1 | exact (div_rng hx hx2 hy0).1 | exact (mod_rng hx hy2 hy0).1 | exact (shr_rng _ hx hx2).1 | (simp only [Go.u64_and _ _ hx hx2 hy hy2, Go.u64_or _ _ hx hx2 hy hy2, Go.u64_xor _ _ hx hx2 hy hy2]; omega)
         · first | exact (wrap_rng _).2 | exact (div_rng hx hx2 hy0).2 | exact (mod_rng hx hy2 hy0).2 | exact (shr_rng _ hx hx2).2 | (rw [Go.u64_and _ _ hx hx2 hy hy2]; exact land_lt hx hx2 hy hy2) | (rw [Go.u64_or _ _ hx hx2 hy hy2]; exact lor_lt hx hx2 hy hy2) | (rw [Go.u64_xor _ _ hx hx2 hy hy2]; exact lxor_lt hx hx2 hy hy2)
         · rintro e w' ⟨rfl, rfl⟩
           go_wp2
           go_ret
           refine ⟨ret_u64 ?_, rfl⟩
           simp only [Wd.bu1, Wd.bu2, Wd.bu3, Wd.bu4, Wd.bu5, Wd.bu6, Wd.bu7, Wd.bu8, Wd.bu9, Wd.bu10, Wd.canon_wrap, Go.u64_and _ _ hx hx2 hy hy2, Go.u64_or _ _ hx hx2 hy hy2, Go.u64_xor _ _ hx hx2 hy hy2])

theorem sg_wrap (x : Int) : wrap64 x = Wd.sg x := by unfold wrap64 Wd.sg; rfl
theorem sg_ne {y : Int} (h : 0 < y) (h2 : y < 18446744073709551616) : (wrap64 y == 0) = false := by rw [beq_eq_false_iff_ne]; unfold wrap64; omega
theorem canon_sg (k x : Int) : Wd.canon k (Wd.sg x) = Wd.canon k x := by
  rw [← Wd.canon_mod k x, ← Wd.canon_mod k (Wd.sg x)]; congr 1; unfold Wd.sg; omega

set_option maxHeartbeats 1000000 in
theorem binS_any (op k x y : Int) (w : World) (hx : 0 ≤ x) (hx2 : x < 18446744073709551616) (hy : 0 ≤ y) (hy2 : y < 18446744073709551616) (h1 : 1 ≤ op) (h2 : op ≤ 16) (hz : op = 4 ∨ op = 5 → 0 < y) :
    Calls Tryz.prog 189 #[.int .i64 op, .int .i64 k, .int .u64 x, .int .u64 y] w fun e w' => e = .returned (.int .u64 (Wd.bs op k x y)) ∧ w' = w := by
  have Hz : Hid (op = 4 ∨ op = 5 → 0 < y) := hz
  clear hz
  rcases ops16 h1 h2 with h | h | h | h | h | h | h | h | h | h | h | h | h | h | h | h
  all_goals
    subst h
    first | (have hy0 : 0 < y := Hz.out (by decide); have hy3 : ¬ wrap64 y = 0 := by have := sg_ne hy0 hy2; simpa using this) | skip
    clear Hz h1 h2
    go_enter Tryz.func189, Tryz.ntmps189
    go_wp2_with (first | (go_at_call 197; go_in) | (go_at_call 201; refine (compareI_any _ _ _ _).mono ?_; rintro e w' ⟨rfl, rfl⟩) | (go_at_call 190; refine (binU_any _ _ _ _ _ (by assumption) (by assumption) (by assumption) (by assumption) (by decide) (by decide) (by intro h; simp at h)).mono ?_; rintro e w' ⟨rfl, rfl⟩))
    first
      | (go_ret; refine ⟨ret_u64 ?_, rfl⟩; first | exact (Wd.bsu _ _ _ _ (by decide) (by decide) (by decide) (by decide)).symm | (rw [Wd.bsc _ _ _ _ (by decide)]; simp only [sg_wrap]) | (rw [Wd.bs10, IntKind.wrap_u64, sg_wrap]))
      | (refine (canon_any _ _ _ (wrap_rng _).1 (wrap_rng _).2).mono ?_
         rintro e w' ⟨rfl, rfl⟩
         go_wp2
         go_ret
         refine ⟨ret_u64 ?_, rfl⟩
         simp only [Wd.bs4, Wd.bs5, Wd.canon_wrap, canon_sg, sg_wrap])

end Go.Proofs.YtdklaeppcjopoaaGreat

/- Bin of kinds that are no floats: its contract. -/
namespace Go.Proofs.YtdklaeppcjopoaaGreat
open Go.RowKit
set_option linter.unusedVariables false

theorem ret_bin {a b c d : Int} (h : (c, d) = (a, b)) : Ending.returned (.tuple #[.int .u64 a, .int .i64 b]) = .returned (.tuple #[.int .u64 c, .int .i64 d]) := by cases h; rfl

theorem opcases (op : Int) : op = 9 ∨ op = 10 ∨ op = 4 ∨ op = 5 ∨ ((op == 9) = false ∧ (op == 10) = false ∧ (op == 4) = false ∧ (op == 5) = false) := by
  simp only [beq_eq_false_iff_ne]; omega

set_option maxHeartbeats 1000000 in
theorem binI_kind (op k x y : Int) (w : World) (hh : Wd.hasBinB op k = false) :
    Calls Tryz.prog 175 #[.int .i64 op, .int .i64 k, .int .u64 x, .int .u64 y] w fun e w' => e = .returned (.tuple #[.int .u64 0, .int .i64 10]) ∧ w' = w := by
  go_enter Tryz.func175, Tryz.ntmps175
  go_wp2_with (go_at_call 186; refine (hasBin_any _ _ _).mono ?_; rintro e w' ⟨rfl, rfl⟩)
  go_ret2
  exact ⟨rfl, rfl⟩

set_option maxHeartbeats 2000000 in
theorem binI_form (op k x y : Int) (w : World) (hx : 0 ≤ x) (hx2 : x < 18446744073709551616) (hy : 0 ≤ y) (hy2 : y < 18446744073709551616)
    (hh : Wd.hasBinB op k = true) (hf : Wd.isB k x = false ∨ Wd.isB (if Wd.shB op then 9 else k) y = false) :
    Calls Tryz.prog 175 #[.int .i64 op, .int .i64 k, .int .u64 x, .int .u64 y] w fun e w' => e = .returned (.tuple #[.int .u64 0, .int .i64 11]) ∧ w' = w := by
  cases hix : Wd.isB k x
  · clear hf
    rcases opcases op with h | h | h | h | ⟨h9, h10, h4, h5⟩
    all_goals
      first | subst h | skip
      go_enter Tryz.func175, Tryz.ntmps175
      go_wp2_with (first | (go_at_call 186; refine (hasBin_any _ _ _).mono ?_; rintro e w' ⟨rfl, rfl⟩) | (go_at_call 187; refine (is_any _ _ _ (by assumption) (by assumption)).mono ?_; rintro e w' ⟨rfl, rfl⟩))
      go_ret2
      exact ⟨rfl, rfl⟩
  · have Hf : Hid (Wd.isB (if Wd.shB op then 9 else k) y = false) := by rcases hf with h | h; { rw [hix] at h; cases h }; exact h
    clear hf
    rcases opcases op with h | h | h | h | ⟨h9, h10, h4, h5⟩
    all_goals
      first | subst h | skip
      first
        | have hf : Wd.isB 9 y = false := Hf.out
        | have hf : Wd.isB k y = false := Hf.out
        | have hf : Wd.isB k y = false := by have := Hf.out; unfold Wd.shB at this; rw [h9, h10] at this; exact this
      clear Hf
      go_enter Tryz.func175, Tryz.ntmps175
      go_wp2_with (first | (go_at_call 186; refine (hasBin_any _ _ _).mono ?_; rintro e w' ⟨rfl, rfl⟩) | (go_at_call 187; refine (is_any _ _ _ (by assumption) (by assumption)).mono ?_; rintro e w' ⟨rfl, rfl⟩))
      go_ret2
      exact ⟨rfl, rfl⟩

set_option maxHeartbeats 2000000 in
theorem binI_zero (op k x : Int) (w : World) (hx : 0 ≤ x) (hx2 : x < 18446744073709551616) (ho : op = 4 ∨ op = 5) (hk : (k == 10) = false)
    (hh : Wd.hasBinB op k = true) (hix : Wd.isB k x = true) (hiy : Wd.isB k 0 = true) :
    Calls Tryz.prog 175 #[.int .i64 op, .int .i64 k, .int .u64 x, .int .u64 0] w fun e w' => e = .returned (.tuple #[.int .u64 0, .int .i64 12]) ∧ w' = w := by
  rcases ho with h | h
  all_goals
    subst h
    go_enter Tryz.func175, Tryz.ntmps175
    go_wp2_with (first | (go_at_call 186; refine (hasBin_any _ _ _).mono ?_; rintro e w' ⟨rfl, rfl⟩) | (go_at_call 187; refine (is_any _ _ _ (by first | assumption | decide) (by first | assumption | decide)).mono ?_; rintro e w' ⟨rfl, rfl⟩))
    go_ret2
    exact ⟨rfl, rfl⟩

set_option maxHeartbeats 2000000 in
theorem binI_ok (op k x y : Int) (w : World) (hx : 0 ≤ x) (hx2 : x < 18446744073709551616) (hy : 0 ≤ y) (hy2 : y < 18446744073709551616) (hk : (k == 10) = false)
    (hh : Wd.hasBinB op k = true) (hix : Wd.isB k x = true) (hf : Wd.isB (if Wd.shB op then 9 else k) y = true) (hz : op = 4 ∨ op = 5 → 0 < y) :
    Calls Tryz.prog 175 #[.int .i64 op, .int .i64 k, .int .u64 x, .int .u64 y] w fun e w' => e = .returned (.tuple #[.int .u64 (if Wd.sgnB k then Wd.bs op k x y else Wd.bu op k x y), .int .i64 0]) ∧ w' = w := by
  have Hz : Hid (op = 4 ∨ op = 5 → 0 < y) := hz
  obtain ⟨ho1, ho2⟩ := Wd.hasBin_ops hh
  have hfc : (op = 9 ∨ op = 10) ∧ Wd.isB 9 y = true ∨ ((op == 9) = false ∧ (op == 10) = false) ∧ Wd.isB k y = true := by
    by_cases h : op = 9 ∨ op = 10
    · left; refine ⟨h, ?_⟩; have e : Wd.shB op = true := by rcases h with rfl | rfl <;> rfl
      rw [e] at hf; exact hf
    · right; have e : (op == 9) = false ∧ (op == 10) = false := by simp only [beq_eq_false_iff_ne]; omega
      refine ⟨e, ?_⟩; unfold Wd.shB at hf; rw [e.1, e.2] at hf; exact hf
  clear hf
  have hyc : y = 0 ∧ (op == 4) = false ∧ (op == 5) = false ∨ (y == 0) = false := by
    by_cases h : y = 0
    · left; refine ⟨h, ?_⟩; simp only [beq_eq_false_iff_ne]; constructor <;> (intro e; have := hz (by omega); omega)
    · right; simpa using h
  clear hz
  cases hs : Wd.sgnB k
  all_goals
    rcases hyc with ⟨rfl, h4, h5⟩ | hyc
    all_goals
      rcases hfc with ⟨rfl | rfl, hf⟩ | ⟨⟨h9, h10⟩, hf⟩
      all_goals
        go_enter Tryz.func175, Tryz.ntmps175
        go_wp2_with (first | (go_at_call 186; refine (hasBin_any _ _ _).mono ?_; rintro e w' ⟨rfl, rfl⟩) | (go_at_call 187; refine (is_any _ _ _ (by first | assumption | decide) (by first | assumption | decide)).mono ?_; rintro e w' ⟨rfl, rfl⟩) | (go_at_call 141; refine (signed_any _ _).mono ?_; rintro e w' ⟨rfl, rfl⟩) | (go_at_call 189; refine (binS_any _ _ _ _ _ (by assumption) (by assumption) (by first | assumption | decide) (by first | assumption | decide) (by first | assumption | decide) (by first | assumption | decide) Hz.out).mono ?_; rintro e w' ⟨rfl, rfl⟩) | (go_at_call 190; refine (binU_any _ _ _ _ _ (by assumption) (by assumption) (by first | assumption | decide) (by first | assumption | decide) (by first | assumption | decide) (by first | assumption | decide) Hz.out).mono ?_; rintro e w' ⟨rfl, rfl⟩))
        all_goals
          go_ret2
          exact ⟨ret_bin rfl, rfl⟩

theorem binI_any (op k x y : Int) (w : World) (hx : 0 ≤ x) (hx2 : x < 18446744073709551616) (hy : 0 ≤ y) (hy2 : y < 18446744073709551616) (hk : k ≠ 10) :
    Calls Tryz.prog 175 #[.int .i64 op, .int .i64 k, .int .u64 x, .int .u64 y] w fun e w' => e = .returned (.tuple #[.int .u64 (Wd.binI op k x y).1, .int .i64 (Wd.binI op k x y).2]) ∧ w' = w := by
  have hk' : (k == 10) = false := by simpa using hk
  unfold Wd.binI
  cases hh : Wd.hasBinB op k
  · rw [if_pos rfl]; exact binI_kind op k x y w hh
  · rw [if_neg (by simp)]
    by_cases hf : Wd.isB k x = false ∨ Wd.isB (if Wd.shB op then 9 else k) y = false
    · rw [if_pos hf]; exact binI_form op k x y w hx hx2 hy hy2 hh hf
    · rw [if_neg hf]
      have hix : Wd.isB k x = true := by cases h : Wd.isB k x; { exact absurd (.inl h) hf }; rfl
      have hiy : Wd.isB (if Wd.shB op then 9 else k) y = true := by cases h : Wd.isB (if Wd.shB op then 9 else k) y; { exact absurd (.inr h) hf }; rfl
      by_cases hz : y = 0 ∧ (op = 4 ∨ op = 5)
      · rw [if_pos hz]
        obtain ⟨rfl, ho⟩ := hz
        have hs : Wd.shB op = false := by rcases ho with rfl | rfl <;> rfl
        rw [hs] at hiy
        exact binI_zero op k x w hx hx2 ho hk' hh hix hiy
      · rw [if_neg hz]
        refine (binI_ok op k x y w hx hx2 hy hy2 hk' hh hix hiy (by intro h; have : y ≠ 0 := fun e => hz ⟨e, h⟩; omega)).mono ?_
        rintro e w' ⟨rfl, rfl⟩
        refine ⟨?_, rfl⟩
        split <;> rfl

end Go.Proofs.YtdklaeppcjopoaaGreat

/- bin and wakes (of the laws), at kinds that are no floats: contracts. -/
namespace Go.Proofs.YtdklaeppcjopoaaGreat
open Go.RowKit
set_option linter.unusedVariables false

namespace Wd
/-- the word alone -/
def bv (op k x y : Int) : Int := (binI op k x y).1
end Wd

end Go.Proofs.YtdklaeppcjopoaaGreat

/- Un: its contract. -/
namespace Go.Proofs.YtdklaeppcjopoaaGreat
open Go.RowKit
set_option linter.unusedVariables false

namespace Wd
def flip (x : Int) : Int := if x < 9223372036854775808 then x + 9223372036854775808 else x - 9223372036854775808
def unI (op k x : Int) : Int × Int :=
  if hasUnB op k = false then (0, 10) else if isB k x = false then (0, 11)
  else if op = 2 then (1 - x, 0) else if op = 3 then (canon k (18446744073709551615 - x), 0) else if k = 10 then (flip x, 0) else (canon k (-x), 0)
end Wd

theorem xor_top {a : Nat} (h : a < 9223372036854775808) : a ^^^ 9223372036854775808 = 9223372036854775808 + a := by
  have e : (9223372036854775808 : Nat) = 2 ^ 63 := by decide
  rw [e] at *
  refine Nat.eq_of_testBit_eq fun i => ?_
  rw [Nat.testBit_xor, Nat.testBit_two_pow]
  rcases Nat.lt_trichotomy i 63 with hi | hi | hi
  · rw [Nat.testBit_two_pow_add_gt hi, decide_eq_false (by omega), Bool.xor_false]
  · subst hi; rw [Nat.testBit_two_pow_add_eq, decide_eq_true rfl, Bool.xor_true]
  · have p : 2 ^ 64 ≤ 2 ^ i := Nat.pow_le_pow_right (by omega) hi
    have q : 2 ^ 64 = 2 ^ 63 + 2 ^ 63 := by decide
    rw [Nat.testBit_lt_two_pow (x := a) (by omega), Nat.testBit_lt_two_pow (x := 2 ^ 63 + a) (by omega), decide_eq_false (by omega), Bool.xor_false]
theorem xor_ones {a : Nat} (h : a < 18446744073709551616) : 18446744073709551615 ^^^ a = 18446744073709551615 - a := by
  have e1 : (18446744073709551615 : Nat) = 2 ^ 64 - 1 := by decide
  have e2 : (18446744073709551615 - a : Nat) = 2 ^ 64 - (a + 1) := by omega
  have h' : a < 2 ^ 64 := h
  rw [e2, e1]
  refine Nat.eq_of_testBit_eq fun i => ?_
  rw [Nat.testBit_xor, Nat.testBit_two_pow_sub_one, Nat.testBit_two_pow_sub_succ h']
  by_cases hi : i < 64
  · simp [hi]
  · have p : 2 ^ 64 ≤ 2 ^ i := Nat.pow_le_pow_right (by omega) (by omega)
    rw [Nat.testBit_lt_two_pow (x := a) (by omega)]; simp [hi]

theorem bits_flip {x : Int} (h1 : 0 ≤ x) (h2 : x < 18446744073709551616) : bits .xor .u64 x 9223372036854775808 = Wd.flip x := by
  rw [Go.u64_xor _ _ h1 h2 (by decide) (by decide), show (9223372036854775808 : Int).toNat = 9223372036854775808 from rfl]
  unfold Wd.flip
  split
  · rw [xor_top (by omega)]; omega
  · have e : x.toNat = (x - 9223372036854775808).toNat ^^^ 9223372036854775808 := by rw [xor_top (by omega)]; omega
    rw [e, Nat.xor_assoc, Nat.xor_self, Nat.xor_zero]; omega
theorem bits_com {x : Int} (h1 : 0 ≤ x) (h2 : x < 18446744073709551616) : bits .xor .u64 IntKind.u64.max x = 18446744073709551615 - x := by
  rw [show IntKind.u64.max = 18446744073709551615 from by decide, Go.u64_xor _ _ (by decide) (by decide) h1 h2, show (18446744073709551615 : Int).toNat = 18446744073709551615 from rfl, xor_ones (by omega)]; omega
theorem bits_not {x : Int} (h1 : 0 ≤ x) (h2 : x ≤ 1) : bits .xor .u64 x 1 = 1 - x := by
  rw [Go.u64_xor _ _ h1 (by omega) (by decide) (by decide)]
  have : x = 0 ∨ x = 1 := by omega
  rcases this with rfl | rfl <;> decide

theorem unI_ok {op k x : Int} (hh : Wd.hasUnB op k = true) (hi : Wd.isB k x = true) :
    Wd.unI op k x = if op = 2 then (1 - x, 0) else if op = 3 then (Wd.canon k (18446744073709551615 - x), 0) else if k = 10 then (Wd.flip x, 0) else (Wd.canon k (-x), 0) := by
  unfold Wd.unI; rw [if_neg (by simp [hh]), if_neg (by simp [hi])]

set_option maxHeartbeats 1000000 in
theorem un_ok (op k x : Int) (w : World) (hx : 0 ≤ x) (hx2 : x < 18446744073709551616) (hh : Wd.hasUnB op k = true) (hi : Wd.isB k x = true) :
    Calls Tryz.prog 177 #[.int .i64 op, .int .i64 k, .int .u64 x] w fun e w' => e = .returned (.tuple #[.int .u64 (Wd.unI op k x).1, .int .i64 (Wd.unI op k x).2]) ∧ w' = w := by
  have Hu : Hid (_ = _) := unI_ok hh hi
  have Hn : Hid (op = 2 → x ≤ 1) := by
    show op = 2 → x ≤ 1
    rintro rfl
    have hk : k = 1 := by simpa [Wd.hasUnB] using hh
    subst hk
    simp only [Wd.isB, Wd.canon1, Bool.and_eq_true, beq_iff_eq] at hi
    omega
  go_enter Tryz.func177, Tryz.ntmps177
  go_wp2_with (first | (go_at_call 191; refine (hasUn_any _ _ _).mono ?_; rintro e w' ⟨rfl, rfl⟩) | (go_at_call 187; refine (is_any _ _ _ (by first | assumption | decide) (by first | assumption | decide)).mono ?_; rintro e w' ⟨rfl, rfl⟩) | (go_at_call 192; go_in) | (go_at_call 137; refine (canon_any _ _ _ (by first | exact (wrap_rng _).1 | (rw [bits_com (by assumption) (by assumption)]; omega)) (by first | exact (wrap_rng _).2 | (rw [bits_com (by assumption) (by assumption)]; omega))).mono ?_; rintro e w' ⟨rfl, rfl⟩))
  all_goals
    go_ret2
    refine ⟨ret_bin ?_, rfl⟩
    show Wd.unI op k x = _
    rw [Hu.out]
  · rw [if_pos (by simpa using ‹(op == 2) = true›), bits_not hx (Hn.out (by simpa using ‹(op == 2) = true›))]
  · rw [if_neg (by simpa using ‹(op == 2) = false›), if_pos (by simpa using ‹(op == 3) = true›), bits_com hx hx2]
  · rw [if_neg (by simpa using ‹(op == 2) = false›), if_neg (by simpa using ‹(op == 3) = false›), if_pos (by simpa using ‹(k == 10) = true›), bits_flip hx hx2]
  · rw [if_neg (by simpa using ‹(op == 2) = false›), if_neg (by simpa using ‹(op == 3) = false›), if_neg (by simpa using ‹(k == 10) = false›), Wd.canon_wrap]

set_option maxHeartbeats 400000 in
theorem un_kind (op k x : Int) (w : World) (hh : Wd.hasUnB op k = false) :
    Calls Tryz.prog 177 #[.int .i64 op, .int .i64 k, .int .u64 x] w fun e w' => e = .returned (.tuple #[.int .u64 0, .int .i64 10]) ∧ w' = w := by
  go_enter Tryz.func177, Tryz.ntmps177
  go_wp2_with (go_at_call 191; refine (hasUn_any _ _ _).mono ?_; rintro e w' ⟨rfl, rfl⟩)
  go_ret2
  exact ⟨rfl, rfl⟩

set_option maxHeartbeats 400000 in
theorem un_form (op k x : Int) (w : World) (hx : 0 ≤ x) (hx2 : x < 18446744073709551616) (hh : Wd.hasUnB op k = true) (hi : Wd.isB k x = false) :
    Calls Tryz.prog 177 #[.int .i64 op, .int .i64 k, .int .u64 x] w fun e w' => e = .returned (.tuple #[.int .u64 0, .int .i64 11]) ∧ w' = w := by
  go_enter Tryz.func177, Tryz.ntmps177
  go_wp2_with (first | (go_at_call 191; refine (hasUn_any _ _ _).mono ?_; rintro e w' ⟨rfl, rfl⟩) | (go_at_call 187; refine (is_any _ _ _ (by assumption) (by assumption)).mono ?_; rintro e w' ⟨rfl, rfl⟩))
  go_ret2
  exact ⟨rfl, rfl⟩

theorem un_any (op k x : Int) (w : World) (hx : 0 ≤ x) (hx2 : x < 18446744073709551616) :
    Calls Tryz.prog 177 #[.int .i64 op, .int .i64 k, .int .u64 x] w fun e w' => e = .returned (.tuple #[.int .u64 (Wd.unI op k x).1, .int .i64 (Wd.unI op k x).2]) ∧ w' = w := by
  cases hh : Wd.hasUnB op k
  · have e : Wd.unI op k x = (0, 10) := by unfold Wd.unI; rw [if_pos hh]
    rw [e]; exact un_kind op k x w hh
  · cases hi : Wd.isB k x
    · have e : Wd.unI op k x = (0, 11) := by unfold Wd.unI; rw [if_neg (by simp [hh]), if_pos hi]
      rw [e]; exact un_form op k x w hx hx2 hh hi
    · exact un_ok op k x w hx hx2 hh hi

end Go.Proofs.YtdklaeppcjopoaaGreat

/- Floats as their bits: plain functions, and what they keep to. No Go here. -/
namespace Go.Proofs.YtdklaeppcjopoaaGreat
open Ieee
namespace Fl
set_option linter.unusedVariables false

/-- what a word of 64 bits stands for -/
def rd (x : Int) : Datum := double.read x.toNat
def theNaN : Int := 9221120237041090560
/-- the order of two floats -/
def ordN (a b : Nat) : Option Ordering := double.order a b
def cmpN (op : Int) (a b : Nat) : Int :=
  if op = 11 then Wd.tr (ordN a b == some .eq) else if op = 12 then Wd.tr (ordN a b != some .eq) else if op = 13 then Wd.tr (ordN a b == some .lt)
  else if op = 14 then Wd.tr (ordN a b == some .lt || ordN a b == some .eq) else if op = 15 then Wd.tr (ordN a b == some .gt) else if op = 16 then Wd.tr (ordN a b == some .gt || ordN a b == some .eq) else 0
def cmpF (op x y : Int) : Int := cmpN op x.toNat y.toNat
def raw (op x y : Int) : Option Nat :=
  if op = 1 then double.add x.toNat y.toNat else if op = 2 then double.sub x.toNat y.toNat else if op = 3 then double.mul x.toNat y.toNat else double.div x.toNat y.toNat
def ar (op x y : Int) : Int := match raw op x y with | some r => r | none => theNaN
def bf (op x y : Int) : Int := if Wd.cmpB op then cmpF op x y else ar op x y

theorem sum_comm (a b : Datum) : a.sum b = b.sum a := by
  cases a <;> cases b <;> simp only [Datum.sum]
  · rename_i s m i t n j
    rw [Int.min_comm i j, Int.add_comm (signed s m _), Bool.and_comm s t]
  · rename_i s t
    by_cases h : s = t
    · subst h; rfl
    · rw [if_neg h, if_neg (fun e => h e.symm)]
theorem product_comm (a b : Datum) : a.product b = b.product a := by
  cases a <;> cases b <;> simp only [Datum.product]
  · rename_i s m i t n j
    rw [Bool.xor_comm, Nat.mul_comm, Int.add_comm]
  · rename_i s t; rw [Bool.xor_comm]

theorem sw : double.signWeight = 9223372036854775808 := by decide +kernel
theorem bn : double.binade = 4503599627370496 := by decide +kernel
theorem ir : double.infRung = 9218868437227405312 := by decide +kernel
theorem lp : double.leastPlace = -1074 := by decide +kernel
def rdOf (neg : Bool) (rung : Nat) : Datum :=
  if rung < 4503599627370496 then .number neg rung (-1074)
  else if rung < 9218868437227405312 then .number neg (4503599627370496 + rung % 4503599627370496) (-1074 + (rung / 4503599627370496 - 1 : Nat))
  else if rung = 9218868437227405312 then .infinity neg
  else .nan neg (rung - 9218868437227405312)
theorem read_is (n : Nat) : double.read n = rdOf (n / 9223372036854775808 % 2 == 1) (n % 9223372036854775808) := by
  unfold Format.read rdOf
  simp only [sw, bn, ir, lp]
theorem read_word (neg : Bool) {rung : Nat} (h : rung < 9223372036854775808) : double.read (double.word neg rung) = rdOf neg rung := by
  rw [read_is]
  unfold Format.word
  rw [sw]
  cases neg
  · rw [if_neg (by simp), show rung / 9223372036854775808 % 2 = 0 by omega, show rung % 9223372036854775808 = rung by omega]; rfl
  · rw [if_pos rfl, show (9223372036854775808 + rung) / 9223372036854775808 % 2 = 1 by omega, show (9223372036854775808 + rung) % 9223372036854775808 = rung by omega]; rfl

/-- a word of a finite number or an infinity is no NaN's -/
theorem nearest_word (neg : Bool) (mag : Nat) (place : Int) : ∃ rung, rung ≤ 9218868437227405312 ∧ double.nearest neg mag place = double.word neg rung := by
  unfold Format.nearest
  split
  · exact ⟨0, by omega, rfl⟩
  · dsimp only
    refine ⟨_, ?_, rfl⟩
    rw [ir]; exact Nat.min_le_right _ _
theorem write_num (neg : Bool) (mag : Nat) (place : Int) : (double.read (double.write (.number neg mag place))).isNaN = false := by
  obtain ⟨r, h, e⟩ := nearest_word neg mag place
  show (double.read (double.nearest neg mag place)).isNaN = false
  rw [e, read_word neg (by omega)]
  unfold rdOf
  repeat' split
  all_goals first | rfl | omega
theorem write_inf (neg : Bool) : (double.read (double.write (.infinity neg))).isNaN = false := by
  show (double.read (double.word neg double.infRung)).isNaN = false
  rw [ir, read_word neg (by omega)]
  unfold rdOf
  repeat' split
  all_goals first | rfl | omega

theorem cmp_self (a : Int) : compare a a = Ordering.eq := by simp [compare, compareOfLessAndEq]
theorem cmp_selfN (a : Nat) : compare a a = Ordering.eq := by simp [compare, compareOfLessAndEq]
theorem order_self {d : Datum} (h : d.isNaN = false) : d.order d = some .eq := by
  cases d with
  | number s m i => simp only [Datum.order]; rw [cmp_self]
  | infinity s => simp only [Datum.order]; rw [cmp_selfN]
  | nan s t => cases h
theorem order_nan {d e : Datum} (h : d.isNaN = true) : d.order e = none := by
  cases d with
  | nan s t => cases e <;> rfl
  | number s m i => cases h
  | infinity s => cases h

theorem raw_ok {op x y : Int} {r : Nat} (h : raw op x y = some r) : (double.read r).isNaN = false := by
  have key : ∀ d : Option Datum, (∀ e, d = some e → e.isNaN = false) → d.map double.write = some r → (double.read r).isNaN = false := by
    intro d hd hr
    cases d with
    | none => cases hr
    | some e =>
      have h1 := hd e rfl
      have : double.write e = r := by simpa using hr
      subst this
      cases e with
      | number s m i => exact write_num s m i
      | infinity s => exact write_inf s
      | nan s t => cases h1
  have hs : ∀ a b e, Datum.sum a b = some e → e.isNaN = false := by
    intro a b e he
    cases a <;> cases b <;> simp only [Datum.sum] at he
    all_goals first | (cases he; done) | skip
    all_goals first | (cases he; rfl) | (split at he; · cases he; rfl
                                         · cases he)
  have hp : ∀ a b e, Datum.product a b = some e → e.isNaN = false := by
    intro a b e he
    cases a <;> cases b <;> simp only [Datum.product] at he
    all_goals first | (cases he; done) | skip
    all_goals first | (cases he; rfl) | (split at he; · cases he
                                         · cases he; rfl)
  have hq : ∀ n a b e, Datum.quotient n a b = some e → e.isNaN = false := by
    intro n a b e he
    cases a <;> cases b <;> simp only [Datum.quotient] at he
    all_goals first | (cases he; done) | skip
    all_goals first | (cases he; rfl) | (split at he; · split at he
                                                        · cases he
                                                        · cases he; rfl
                                         · cases he; rfl)
  unfold raw at h
  split at h
  · exact key _ (hs _ _) h
  · split at h
    · exact key _ (hs _ _) h
    · split at h
      · exact key _ (hp _ _) h
      · exact key _ (hq _ _ _) h

end Fl
end Go.Proofs.YtdklaeppcjopoaaGreat

/- The float functions of package word: contracts. -/
namespace Go.Proofs.YtdklaeppcjopoaaGreat
open Go.RowKit
set_option linter.unusedVariables false

theorem frombits (x : Int) (w : World) : (callFunc 109 #[.int .u64 x]).run Tryz.prog w = .ok (.value (.float .f64 x.toNat)) w := by kernel_rfl
theorem tobits (b : Nat) (w : World) : (callFunc 135 #[.float .f64 b]).run Tryz.prog w = .ok (.value (.int .u64 b)) w := by kernel_rfl

theorem ord_nat (a b : Nat) : Fl.ordN a b = FloatKind.f64.format.order a b := rfl

set_option maxHeartbeats 400000 in
theorem compareF_any (op : Int) (a b : Nat) (w : World) :
    Calls Tryz.prog 199 #[.int .i64 op, .float .f64 a, .float .f64 b] w fun e w' => e = .returned (.int .u64 (Fl.cmpN op a b)) ∧ w' = w := by
  go_enter Tryz.func199, Tryz.ntmps199
  go_wp2
  all_goals
    go_ret
    refine ⟨ret_u64 ?_, rfl⟩
    unfold Fl.cmpN Wd.tr
    rw [ord_nat]
    generalize FloatKind.f64.format.order a b = o at *
    simp_all

/-- a float that is one: a test against itself -/
theorem self_eq {b : Nat} (h : (Ieee.double.read b).isNaN = false) : (FloatKind.f64.format.order b b != some Ordering.eq) = false := by
  show (Ieee.Datum.order (Ieee.double.read b) (Ieee.double.read b) != some Ordering.eq) = false
  rw [Fl.order_self h]; rfl
theorem self_ne {b : Nat} (h : (Ieee.double.read b).isNaN = true) : (FloatKind.f64.format.order b b != some Ordering.eq) = true := by
  show (Ieee.Datum.order (Ieee.double.read b) (Ieee.double.read b) != some Ordering.eq) = true
  rw [Fl.order_nan h]; rfl

set_option maxHeartbeats 400000 in
theorem oneNaN_no (b : Nat) (w : World) (h : (Ieee.double.read b).isNaN = false) :
    Calls Tryz.prog 200 #[.float .f64 b] w fun e w' => e = .returned (.int .u64 b) ∧ w' = w := by
  have hb := tobits b
  have hs := self_eq h
  clear h
  go_enter Tryz.func200, Tryz.ntmps200
  go_wp2
  go_ret
  exact ⟨rfl, rfl⟩
set_option maxHeartbeats 400000 in
theorem oneNaN_yes (b : Nat) (w : World) (h : (Ieee.double.read b).isNaN = true) :
    Calls Tryz.prog 200 #[.float .f64 b] w fun e w' => e = .returned (.int .u64 Fl.theNaN) ∧ w' = w := by
  have hs := self_ne h
  clear h
  go_enter Tryz.func200, Tryz.ntmps200
  go_wp2
  go_ret
  exact ⟨rfl, rfl⟩

/-- the NaN that the machine makes -/
def anyNaN (w : World) (x y : Nat) : Nat := Question.cut (.nanBits .f64 x y) (w.tape w.drawn (.nanBits .f64 x y))
theorem anyNaN_is (w : World) (x y : Nat) : (Ieee.double.read (anyNaN w x y)).isNaN = true := by
  unfold anyNaN
  generalize w.tape w.drawn (.nanBits .f64 x y) = t
  show (Ieee.double.read ((t % 2) * 2 ^ 63 + 0x7ff0000000000000 + 1 + (t / 2) % (2 ^ 52 - 1))).isNaN = true
  rw [Fl.read_is]
  have h1 : ((t % 2) * 2 ^ 63 + 0x7ff0000000000000 + 1 + (t / 2) % (2 ^ 52 - 1)) % 9223372036854775808 = 0x7ff0000000000000 + 1 + (t / 2) % (2 ^ 52 - 1) := by omega
  rw [h1]
  unfold Fl.rdOf
  rw [if_neg (by omega), if_neg (by omega), if_neg (by omega)]; rfl

theorem run_nan (op : BinOp) (t : TypeId) (x y : Nat) (h : floatBits op .f64 x y = none) (ho : op = .add ∨ op = .sub ∨ op = .mul ∨ op = .quo) (w : World) :
    (binOp op t (.float .f64 x) (.float .f64 y)).run Tryz.prog w = .ok (.float .f64 (anyNaN w x y)) w.drew := by
  unfold floatBits at h
  rcases ho with rfl | rfl | rfl | rfl <;> simp only at h <;> simp [binOp, Op.floatArith, h, anyNaN, Question.forced]

set_option maxHeartbeats 400000 in
theorem binF_add (x y : Int) (w : World) :
    Calls Tryz.prog 188 #[.int .i64 1, .int .u64 x, .int .u64 y] w fun e w' => e = .returned (.int .u64 (Fl.ar 1 x y)) ∧ ∃ n, w' = w.drewN n := by
  have f1 := frombits
  cases hr : floatBits .add .f64 x.toNat y.toNat with
  | some r =>
    have Ha : Hid (Fl.ar 1 x y = r) := by show (match floatBits .add .f64 x.toNat y.toNat with | some r => (r : Int) | none => Fl.theNaN) = (r : Int); rw [hr]
    have Hn : Hid ((Ieee.double.read r).isNaN = false) := Fl.raw_ok (op := 1) (x := x) (y := y) hr
    have hrun := fun (w : World) (t : TypeId) => run_float_arith (P := Tryz.prog) w .add t .f64 x.toNat y.toNat r hr
    clear hr
    go_enter Tryz.func188, Tryz.ntmps188
    go_wp2_with (first | (go_at_call 197; go_in) | (go_at_call 200; refine (oneNaN_no _ _ Hn.out).mono ?_; rintro e w' ⟨rfl, rfl⟩))
    go_ret
    exact ⟨ret_u64 Ha.out.symm, 0, rfl⟩
  | none =>
    have Ha : Hid (Fl.ar 1 x y = Fl.theNaN) := by show (match floatBits .add .f64 x.toNat y.toNat with | some r => (r : Int) | none => Fl.theNaN) = _; rw [hr]
    have hrun := fun (w : World) (t : TypeId) => run_nan .add t x.toNat y.toNat hr (by simp) w
    clear hr
    go_enter Tryz.func188, Tryz.ntmps188
    go_wp2_with (first | (go_at_call 197; go_in) | (go_at_call 200; refine (oneNaN_yes _ _ (anyNaN_is _ _ _)).mono ?_; rintro e w' ⟨rfl, rfl⟩))
    go_ret
    exact ⟨ret_u64 Ha.out.symm, 1, rfl⟩
set_option maxHeartbeats 400000 in
theorem binF_sub (x y : Int) (w : World) :
    Calls Tryz.prog 188 #[.int .i64 2, .int .u64 x, .int .u64 y] w fun e w' => e = .returned (.int .u64 (Fl.ar 2 x y)) ∧ ∃ n, w' = w.drewN n := by
  have f1 := frombits
  cases hr : floatBits .sub .f64 x.toNat y.toNat with
  | some r =>
    have Ha : Hid (Fl.ar 2 x y = r) := by show (match floatBits .sub .f64 x.toNat y.toNat with | some r => (r : Int) | none => Fl.theNaN) = (r : Int); rw [hr]
    have Hn : Hid ((Ieee.double.read r).isNaN = false) := Fl.raw_ok (op := 2) (x := x) (y := y) hr
    have hrun := fun (w : World) (t : TypeId) => run_float_arith (P := Tryz.prog) w .sub t .f64 x.toNat y.toNat r hr
    clear hr
    go_enter Tryz.func188, Tryz.ntmps188
    go_wp2_with (first | (go_at_call 197; go_in) | (go_at_call 200; refine (oneNaN_no _ _ Hn.out).mono ?_; rintro e w' ⟨rfl, rfl⟩))
    go_ret
    exact ⟨ret_u64 Ha.out.symm, 0, rfl⟩
  | none =>
    have Ha : Hid (Fl.ar 2 x y = Fl.theNaN) := by show (match floatBits .sub .f64 x.toNat y.toNat with | some r => (r : Int) | none => Fl.theNaN) = _; rw [hr]
    have hrun := fun (w : World) (t : TypeId) => run_nan .sub t x.toNat y.toNat hr (by simp) w
    clear hr
    go_enter Tryz.func188, Tryz.ntmps188
    go_wp2_with (first | (go_at_call 197; go_in) | (go_at_call 200; refine (oneNaN_yes _ _ (anyNaN_is _ _ _)).mono ?_; rintro e w' ⟨rfl, rfl⟩))
    go_ret
    exact ⟨ret_u64 Ha.out.symm, 1, rfl⟩
set_option maxHeartbeats 400000 in
theorem binF_mul (x y : Int) (w : World) :
    Calls Tryz.prog 188 #[.int .i64 3, .int .u64 x, .int .u64 y] w fun e w' => e = .returned (.int .u64 (Fl.ar 3 x y)) ∧ ∃ n, w' = w.drewN n := by
  have f1 := frombits
  cases hr : floatBits .mul .f64 x.toNat y.toNat with
  | some r =>
    have Ha : Hid (Fl.ar 3 x y = r) := by show (match floatBits .mul .f64 x.toNat y.toNat with | some r => (r : Int) | none => Fl.theNaN) = (r : Int); rw [hr]
    have Hn : Hid ((Ieee.double.read r).isNaN = false) := Fl.raw_ok (op := 3) (x := x) (y := y) hr
    have hrun := fun (w : World) (t : TypeId) => run_float_arith (P := Tryz.prog) w .mul t .f64 x.toNat y.toNat r hr
    clear hr
    go_enter Tryz.func188, Tryz.ntmps188
    go_wp2_with (first | (go_at_call 197; go_in) | (go_at_call 200; refine (oneNaN_no _ _ Hn.out).mono ?_; rintro e w' ⟨rfl, rfl⟩))
    go_ret
    exact ⟨ret_u64 Ha.out.symm, 0, rfl⟩
  | none =>
    have Ha : Hid (Fl.ar 3 x y = Fl.theNaN) := by show (match floatBits .mul .f64 x.toNat y.toNat with | some r => (r : Int) | none => Fl.theNaN) = _; rw [hr]
    have hrun := fun (w : World) (t : TypeId) => run_nan .mul t x.toNat y.toNat hr (by simp) w
    clear hr
    go_enter Tryz.func188, Tryz.ntmps188
    go_wp2_with (first | (go_at_call 197; go_in) | (go_at_call 200; refine (oneNaN_yes _ _ (anyNaN_is _ _ _)).mono ?_; rintro e w' ⟨rfl, rfl⟩))
    go_ret
    exact ⟨ret_u64 Ha.out.symm, 1, rfl⟩
set_option maxHeartbeats 400000 in
theorem binF_quo (x y : Int) (w : World) :
    Calls Tryz.prog 188 #[.int .i64 4, .int .u64 x, .int .u64 y] w fun e w' => e = .returned (.int .u64 (Fl.ar 4 x y)) ∧ ∃ n, w' = w.drewN n := by
  have f1 := frombits
  cases hr : floatBits .quo .f64 x.toNat y.toNat with
  | some r =>
    have Ha : Hid (Fl.ar 4 x y = r) := by show (match floatBits .quo .f64 x.toNat y.toNat with | some r => (r : Int) | none => Fl.theNaN) = (r : Int); rw [hr]
    have Hn : Hid ((Ieee.double.read r).isNaN = false) := Fl.raw_ok (op := 4) (x := x) (y := y) hr
    have hrun := fun (w : World) (t : TypeId) => run_float_arith (P := Tryz.prog) w .quo t .f64 x.toNat y.toNat r hr
    clear hr
    go_enter Tryz.func188, Tryz.ntmps188
    go_wp2_with (first | (go_at_call 197; go_in) | (go_at_call 200; refine (oneNaN_no _ _ Hn.out).mono ?_; rintro e w' ⟨rfl, rfl⟩))
    go_ret
    exact ⟨ret_u64 Ha.out.symm, 0, rfl⟩
  | none =>
    have Ha : Hid (Fl.ar 4 x y = Fl.theNaN) := by show (match floatBits .quo .f64 x.toNat y.toNat with | some r => (r : Int) | none => Fl.theNaN) = _; rw [hr]
    have hrun := fun (w : World) (t : TypeId) => run_nan .quo t x.toNat y.toNat hr (by simp) w
    clear hr
    go_enter Tryz.func188, Tryz.ntmps188
    go_wp2_with (first | (go_at_call 197; go_in) | (go_at_call 200; refine (oneNaN_yes _ _ (anyNaN_is _ _ _)).mono ?_; rintro e w' ⟨rfl, rfl⟩))
    go_ret
    exact ⟨ret_u64 Ha.out.symm, 1, rfl⟩

set_option maxHeartbeats 400000 in
theorem binF_cmp (op x y : Int) (w : World) (hc : Wd.cmpB op = true) :
    Calls Tryz.prog 188 #[.int .i64 op, .int .u64 x, .int .u64 y] w fun e w' => e = .returned (.int .u64 (Fl.cmpF op x y)) ∧ w' = w := by
  have f1 := frombits
  go_enter Tryz.func188, Tryz.ntmps188
  go_wp2_with (first | (go_at_call 197; refine (compares_any _ _).mono ?_; rintro e w' ⟨rfl, rfl⟩) | (go_at_call 199; refine (compareF_any _ _ _ _).mono ?_; rintro e w' ⟨rfl, rfl⟩))
  go_ret
  exact ⟨rfl, rfl⟩

theorem binF_any (op x y : Int) (w : World) (hop : Wd.hasBinB op 10 = true) :
    Calls Tryz.prog 188 #[.int .i64 op, .int .u64 x, .int .u64 y] w fun e w' => e = .returned (.int .u64 (Fl.bf op x y)) ∧ ∃ n, w' = w.drewN n := by
  unfold Fl.bf
  cases hc : Wd.cmpB op
  · have ho : op = 1 ∨ op = 2 ∨ op = 3 ∨ op = 4 := by
      simp [Wd.hasBinB, Wd.intB, hc] at hop; omega
    rw [if_neg (by simp)]
    rcases ho with rfl | rfl | rfl | rfl
    · exact binF_add x y w
    · exact binF_sub x y w
    · exact binF_mul x y w
    · exact binF_quo x y w
  · rw [if_pos rfl]
    refine (binF_cmp op x y w hc).mono ?_
    rintro e w' ⟨rfl, rfl⟩
    exact ⟨rfl, 0, rfl⟩

end Go.Proofs.YtdklaeppcjopoaaGreat

/- Words modulo 2^width: plain arithmetic. -/
namespace Go.Proofs.YtdklaeppcjopoaaGreat
namespace Wd

/-- 2^width -/
def pw (k : Int) : Int := if k = 1 then 2 else if k = 2 ∨ k = 6 then 256 else if k = 3 ∨ k = 7 then 65536 else if k = 4 ∨ k = 8 then 4294967296 else 18446744073709551616

theorem ints {k : Int} (h1 : 2 ≤ k) (h2 : k ≤ 9) : k = 2 ∨ k = 3 ∨ k = 4 ∨ k = 5 ∨ k = 6 ∨ k = 7 ∨ k = 8 ∨ k = 9 := by omega
theorem pw2 : pw 2 = 256 := rfl
theorem pw3 : pw 3 = 65536 := rfl
theorem pw4 : pw 4 = 4294967296 := rfl
theorem pw5 : pw 5 = 18446744073709551616 := rfl
theorem pw6 : pw 6 = 256 := rfl
theorem pw7 : pw 7 = 65536 := rfl
theorem pw8 : pw 8 = 4294967296 := rfl
theorem pw9 : pw 9 = 18446744073709551616 := rfl

theorem canon_add (k z s : Int) (h1 : 2 ≤ k) (h2 : k ≤ 9) : canon k (z + pw k * s) = canon k z := by
  rcases ints h1 h2 with h | h | h | h | h | h | h | h <;> (subst h; simp only [canon2, canon3, canon4, canon5, canon6, canon7, canon8, canon9, pw2, pw3, pw4, pw5, pw6, pw7, pw8, pw9]; omega)
theorem canon_is (k a : Int) (h1 : 2 ≤ k) (h2 : k ≤ 9) : ∃ t, canon k a = a + pw k * t := by
  refine ⟨(canon k a - a) / pw k, ?_⟩
  rcases ints h1 h2 with h | h | h | h | h | h | h | h <;> (subst h; simp only [canon2, canon3, canon4, canon5, canon6, canon7, canon8, canon9, pw2, pw3, pw4, pw5, pw6, pw7, pw8, pw9]; omega)
theorem canon_eq {k a b : Int} (h1 : 2 ≤ k) (h2 : k ≤ 9) (t : Int) (h : a = b + pw k * t) : canon k a = canon k b := by rw [h, canon_add k b t h1 h2]
theorem pw_dvd {k : Int} (h1 : 2 ≤ k) (h2 : k ≤ 9) : ∃ t, (18446744073709551616 : Int) = pw k * t := by
  refine ⟨18446744073709551616 / pw k, ?_⟩
  rcases ints h1 h2 with h | h | h | h | h | h | h | h <;> (subst h; simp only [pw2, pw3, pw4, pw5, pw6, pw7, pw8, pw9]; omega)
theorem is_word {k x : Int} (h1 : 1 ≤ k) (h2 : k ≤ 11) (hw : canon k x = x) : isB k x = true := by simp [isB, h1, h2, hw]
/-- how far the numbers of a signed kind go -/
def hf (k : Int) : Int := if k = 2 then 128 else if k = 3 then 32768 else if k = 4 then 2147483648 else 9223372036854775808
theorem hf3 : hf 3 = 32768 := rfl
theorem bv_rng {op k x y : Int} : 0 ≤ bv op k x y ∧ bv op k x y < 18446744073709551616 := by
  have c : ∀ a b, 0 ≤ cmpI op a b ∧ cmpI op a b < 18446744073709551616 := fun a b => by rcases cmpI_tr (op := op) (a := a) (b := b) with h | h <;> rw [h] <;> omega
  have u : 0 ≤ bu op k x y ∧ bu op k x y < 18446744073709551616 := by
    unfold bu; repeat' split
    all_goals first | exact canon_rng _ _ | exact c _ _
  have v : 0 ≤ bs op k x y ∧ bs op k x y < 18446744073709551616 := by
    unfold bs; repeat' split
    all_goals first | exact canon_rng _ _ | exact c _ _ | exact u | omega
  unfold bv binI
  repeat' split
  all_goals first | exact u | exact v | (show (0 : Int) ≤ 0 ∧ (0 : Int) < 18446744073709551616; omega)

end Wd
end Go.Proofs.YtdklaeppcjopoaaGreat

/- The laws of words that are whole numbers: plain arithmetic. -/
namespace Go.Proofs.YtdklaeppcjopoaaGreat
namespace Wd
set_option linter.unusedVariables false

/-- a and b are one modulo 2^width -/
def Cg (k a b : Int) : Prop := ∃ t, a = b + pw k * t
theorem Cg.refl (k a : Int) : Cg k a a := ⟨0, by omega⟩
theorem Cg.of {k a b : Int} (h : a = b) : Cg k a b := h ▸ Cg.refl k a
theorem Cg.symm {k a b : Int} (h : Cg k a b) : Cg k b a := by obtain ⟨t, h⟩ := h; exact ⟨-t, by rw [h, Int.mul_neg]; omega⟩
theorem Cg.trans {k a b c : Int} (h : Cg k a b) (g : Cg k b c) : Cg k a c := by obtain ⟨t, h⟩ := h; obtain ⟨u, g⟩ := g; exact ⟨u + t, by rw [h, g, Int.mul_add]; omega⟩
theorem Cg.add {k a b c d : Int} (h : Cg k a b) (g : Cg k c d) : Cg k (a + c) (b + d) := by obtain ⟨t, h⟩ := h; obtain ⟨u, g⟩ := g; exact ⟨t + u, by rw [h, g, Int.mul_add]; omega⟩
theorem Cg.neg {k a b : Int} (h : Cg k a b) : Cg k (-a) (-b) := by obtain ⟨t, h⟩ := h; exact ⟨-t, by rw [h, Int.mul_neg]; omega⟩
theorem Cg.sub {k a b c d : Int} (h : Cg k a b) (g : Cg k c d) : Cg k (a - c) (b - d) := by rw [Int.sub_eq_add_neg, Int.sub_eq_add_neg]; exact h.add g.neg
theorem Cg.mul {k a b c d : Int} (h : Cg k a b) (g : Cg k c d) : Cg k (a * c) (b * d) := by
  obtain ⟨t, h⟩ := h; obtain ⟨u, g⟩ := g
  refine ⟨t * d + b * u + pw k * t * u, ?_⟩
  rw [h, g]
  simp only [Int.add_mul, Int.mul_add, Int.mul_assoc, Int.mul_comm, Int.mul_left_comm]
  omega
theorem Cg.canon {k a : Int} (h1 : 2 ≤ k) (h2 : k ≤ 9) : Cg k (canon k a) a := canon_is k a h1 h2
theorem Cg.eq {k a b : Int} (h1 : 2 ≤ k) (h2 : k ≤ 9) (h : Cg k a b) : Wd.canon k a = Wd.canon k b := by obtain ⟨t, h⟩ := h; exact canon_eq h1 h2 t h
theorem Cg.word {k a x : Int} (h1 : 2 ≤ k) (h2 : k ≤ 9) (hw : Wd.canon k x = x) (h : Cg k a x) : Wd.canon k a = x := by rw [h.eq h1 h2, hw]
theorem Cg.sg {k x : Int} (h1 : 2 ≤ k) (h2 : k ≤ 9) : Cg k (sg x) x := by
  obtain ⟨t, ht⟩ := pw_dvd h1 h2
  refine ⟨t * ((Wd.sg x - x) / 18446744073709551616), ?_⟩
  rw [← Int.mul_assoc, ← ht]; unfold Wd.sg; omega

end Wd
end Go.Proofs.YtdklaeppcjopoaaGreat

/- Bin, and the laws' bin, at every kind: contracts. -/
namespace Go.Proofs.YtdklaeppcjopoaaGreat
open Go.RowKit
set_option linter.unusedVariables false

namespace Fl
def binF (op x y : Int) : Int × Int := if Wd.hasBinB op 10 then (bf op x y, 0) else (0, 10)
/-- Bin: the word and the error -/
def binA (op k x y : Int) : Int × Int := if k = 10 then binF op x y else Wd.binI op k x y
end Fl

theorem is10 {x : Int} (h1 : 0 ≤ x) (h2 : x < 18446744073709551616) : Wd.isB 10 x = true := Wd.is_word (by omega) (by omega) (by rw [Wd.canon10]; omega)

set_option maxHeartbeats 1000000 in
theorem binF_ok (op x y : Int) (w : World) (hx : 0 ≤ x) (hx2 : x < 18446744073709551616) (hy : 0 ≤ y) (hy2 : y < 18446744073709551616) (hh : Wd.hasBinB op 10 = true) :
    Calls Tryz.prog 175 #[.int .i64 op, .int .i64 10, .int .u64 x, .int .u64 y] w fun e w' => e = .returned (.tuple #[.int .u64 (Fl.bf op x y), .int .i64 0]) ∧ ∃ n, w' = w.drewN n := by
  have i1 := is10 hx hx2
  have i2 := is10 hy hy2
  have o9 : (op == 9) = false := by rw [beq_eq_false_iff_ne]; rintro rfl; simp [Wd.hasBinB, Wd.intB, Wd.cmpB] at hh
  have o10 : (op == 10) = false := by rw [beq_eq_false_iff_ne]; rintro rfl; simp [Wd.hasBinB, Wd.intB, Wd.cmpB] at hh
  go_enter Tryz.func175, Tryz.ntmps175
  go_wp2_with (first | (go_at_call 186; refine (hasBin_any _ _ _).mono ?_; rintro e w' ⟨rfl, rfl⟩) | (go_at_call 187; refine (is_any _ _ _ (by assumption) (by assumption)).mono ?_; rintro e w' ⟨rfl, rfl⟩) | (go_at_call 188; refine (binF_any _ _ _ _ (by assumption)).mono ?_; rintro e w' ⟨rfl, n, rfl⟩))
  go_ret2
  exact ⟨rfl, _, rfl⟩

theorem binA_any (op k x y : Int) (w : World) (hx : 0 ≤ x) (hx2 : x < 18446744073709551616) (hy : 0 ≤ y) (hy2 : y < 18446744073709551616) :
    Calls Tryz.prog 175 #[.int .i64 op, .int .i64 k, .int .u64 x, .int .u64 y] w fun e w' => e = .returned (.tuple #[.int .u64 (Fl.binA op k x y).1, .int .i64 (Fl.binA op k x y).2]) ∧ ∃ n, w' = w.drewN n := by
  by_cases hk : k = 10
  · subst hk
    rw [show Fl.binA op 10 x y = Fl.binF op x y from rfl]
    unfold Fl.binF
    cases hh : Wd.hasBinB op 10
    · rw [if_neg (by simp)]
      refine (binI_kind op 10 x y w hh).mono ?_
      rintro e w' ⟨rfl, rfl⟩
      exact ⟨rfl, 0, rfl⟩
    · rw [if_pos rfl]
      exact binF_ok op x y w hx hx2 hy hy2 hh
  · rw [show Fl.binA op k x y = Wd.binI op k x y from if_neg hk]
    refine (binI_any op k x y w hx hx2 hy hy2 hk).mono ?_
    rintro e w' ⟨rfl, rfl⟩
    exact ⟨rfl, 0, rfl⟩

namespace Fl
def bv (op x y : Int) : Int := (binF op x y).1
theorem ar_rng (op x y : Int) : 0 ≤ ar op x y ∧ ar op x y < 18446744073709551616 := by
  unfold ar
  cases h : raw op x y with
  | none => exact ⟨by decide, by decide⟩
  | some r =>
    have : r < 2 ^ Ieee.double.width := by
      unfold raw at h
      repeat' split at h
      all_goals first | exact Ieee.Format.add_lt _ h | exact Ieee.Format.sub_lt _ h | exact Ieee.Format.mul_lt _ h | exact Ieee.Format.div_lt _ h
    have e : 2 ^ Ieee.double.width = 18446744073709551616 := by decide +kernel
    rw [e] at this
    show 0 ≤ (r : Int) ∧ (r : Int) < _
    omega
theorem tr01 (b : Bool) : 0 ≤ Wd.tr b ∧ Wd.tr b ≤ 1 := by cases b <;> decide
theorem cmp01 (op x y : Int) : 0 ≤ cmpF op x y ∧ cmpF op x y ≤ 1 := by
  unfold cmpF cmpN
  repeat' split
  all_goals first | exact tr01 _ | omega
theorem bv_rng {op x y : Int} : 0 ≤ bv op x y ∧ bv op x y < 18446744073709551616 := by
  unfold bv binF bf
  have a := ar_rng op x y
  have c := cmp01 op x y
  repeat' split
  all_goals first | exact a | (show 0 ≤ cmpF op x y ∧ _; omega) | (show (0 : Int) ≤ 0 ∧ _; omega)
end Fl

end Go.Proofs.YtdklaeppcjopoaaGreat

/- The laws of floats: plain. -/
namespace Go.Proofs.YtdklaeppcjopoaaGreat
namespace Fl
open Ieee
set_option linter.unusedVariables false

theorem bv_add (x y : Int) : bv 1 x y = ar 1 x y := rfl
theorem bv_mul (x y : Int) : bv 3 x y = ar 3 x y := rfl
theorem ar_eq {op op' x y x' y' : Int} (h : raw op x y = raw op' x' y') : ar op x y = ar op' x' y' := by unfold ar; rw [h]
theorem add_comm (x y : Int) : bv 1 x y = bv 1 y x := by
  rw [bv_add, bv_add]
  refine ar_eq ?_
  show (Datum.sum _ _).map _ = (Datum.sum _ _).map _
  rw [sum_comm]
theorem mul_comm (x y : Int) : bv 3 x y = bv 3 y x := by
  rw [bv_mul, bv_mul]
  refine ar_eq ?_
  show (Datum.product _ _).map _ = (Datum.product _ _).map _
  rw [product_comm]
end Fl
end Go.Proofs.YtdklaeppcjopoaaGreat

/- Floats cut to whole numbers, and whole numbers as floats: plain. -/
namespace Go.Proofs.YtdklaeppcjopoaaGreat
namespace Fl
open Ieee
set_option linter.unusedVariables false

/-- -2^63 and 2^63 as floats -/
def cLo : Nat := 14114281232179134464
def cHi : Nat := 4890909195324358656
theorem rd_lo : double.read cLo = .number true 4503599627370496 11 := by decide +kernel
theorem rd_hi : double.read cHi = .number false 4503599627370496 11 := by decide +kernel

def loB (x : Int) : Bool := ordN x.toNat cLo == some .gt || ordN x.toNat cLo == some .eq
def hiB (x : Int) : Bool := ordN x.toNat cHi == some .lt
def toI (x : Int) : Int := match (double.read x.toNat).toInt .zero with | some n => n | none => 0
/-- a float rounded to 0, in 64 bits; 2^63 where it does not fit -/
def trunc (x : Int) : Int := if loB x && hiB x then toI x % 18446744073709551616 else 9223372036854775808

theorem cmp_lt {a b : Int} (h : compare a b = Ordering.lt) : a < b := by
  simp only [compare, compareOfLessAndEq] at h
  by_cases g : a < b
  · exact g
  · rw [if_neg g] at h; split at h <;> cases h
theorem cmp_ge {a b : Int} (h : compare a b = Ordering.gt ∨ compare a b = Ordering.eq) : b ≤ a := by
  simp only [compare, compareOfLessAndEq] at h
  by_cases g : a < b
  · rw [if_pos g] at h; rcases h with h | h <;> cases h
  · omega

theorem cut_zero (s : Bool) (n d : Nat) : Toward.zero.cut s n d = n / 2 ^ min d (n.log2 + 2) := by
  unfold Toward.cut
  simp only [Nat.one_shiftLeft]
  rfl
theorem cut_le (s : Bool) (n d : Nat) : Toward.zero.cut s n d ≤ n / 2 ^ d := by
  rw [cut_zero]
  by_cases h : d ≤ n.log2 + 2
  · rw [Nat.min_eq_left h]; exact Nat.le_refl _
  · rw [Nat.min_eq_right (by omega)]
    have p : n < 2 ^ (n.log2 + 2) := Nat.lt_of_lt_of_le Nat.lt_log2_self (Nat.pow_le_pow_right (by omega) (by omega))
    rw [Nat.div_eq_of_lt p]; exact Nat.zero_le _

/-- the number of whole units of m 2^i -/
theorem cut_bound (s : Bool) (m : Nat) (i : Int) (C : Nat) (h : m * 2 ^ (i - min i 11).toNat ≤ C * 2 ^ (11 - min i 11).toNat) : Toward.zero.cut s (m <<< i.toNat) (-i).toNat ≤ C * 2 ^ 11 := by
  rw [Nat.shiftLeft_eq]
  by_cases hi : 0 ≤ i
  · rw [show (-i).toNat = 0 by omega]
    refine Nat.le_trans (cut_le s _ 0) ?_
    rw [Nat.pow_zero, Nat.div_one]
    by_cases h11 : i ≤ 11
    · rw [show min i 11 = i by omega, show (i - i).toNat = 0 by omega, Nat.pow_zero, Nat.mul_one] at h
      have := Nat.mul_le_mul_right (2 ^ i.toNat) h
      rw [Nat.mul_assoc, ← Nat.pow_add, show (11 - i).toNat + i.toNat = 11 by omega] at this
      exact this
    · rw [show min i 11 = 11 by omega, show ((11 : Int) - 11).toNat = 0 by omega, Nat.pow_zero, Nat.mul_one] at h
      have := Nat.mul_le_mul_right (2 ^ 11) h
      rw [Nat.mul_assoc, ← Nat.pow_add, show (i - 11).toNat + 11 = i.toNat by omega] at this
      exact this
  · rw [show i.toNat = 0 by omega, Nat.pow_zero, Nat.mul_one]
    refine Nat.le_trans (cut_le s _ _) ?_
    rw [show min i 11 = i by omega, show (i - i).toNat = 0 by omega, Nat.pow_zero, Nat.mul_one, show (11 - i).toNat = 11 + (-i).toNat by omega, Nat.pow_add, ← Nat.mul_assoc] at h
    exact Nat.div_le_of_le_mul (by rw [Nat.mul_comm]; exact h)
theorem cut_bound_lt (s : Bool) (m : Nat) (i : Int) (C : Nat) (h : m * 2 ^ (i - min i 11).toNat < C * 2 ^ (11 - min i 11).toNat) : Toward.zero.cut s (m <<< i.toNat) (-i).toNat < C * 2 ^ 11 := by
  rw [Nat.shiftLeft_eq]
  by_cases hi : 0 ≤ i
  · rw [show (-i).toNat = 0 by omega]
    refine Nat.lt_of_le_of_lt (cut_le s _ 0) ?_
    rw [Nat.pow_zero, Nat.div_one]
    by_cases h11 : i ≤ 11
    · rw [show min i 11 = i by omega, show (i - i).toNat = 0 by omega, Nat.pow_zero, Nat.mul_one] at h
      have := Nat.mul_lt_mul_of_pos_right h (Nat.two_pow_pos i.toNat)
      rw [Nat.mul_assoc, ← Nat.pow_add, show (11 - i).toNat + i.toNat = 11 by omega] at this
      exact this
    · rw [show min i 11 = 11 by omega, show ((11 : Int) - 11).toNat = 0 by omega, Nat.pow_zero, Nat.mul_one] at h
      have := Nat.mul_lt_mul_of_pos_right h (Nat.two_pow_pos 11)
      rw [Nat.mul_assoc, ← Nat.pow_add, show (i - 11).toNat + 11 = i.toNat by omega] at this
      exact this
  · rw [show i.toNat = 0 by omega, Nat.pow_zero, Nat.mul_one]
    refine Nat.lt_of_le_of_lt (cut_le s _ _) ?_
    rw [show min i 11 = i by omega, show (i - i).toNat = 0 by omega, Nat.pow_zero, Nat.mul_one, show (11 - i).toNat = 11 + (-i).toNat by omega, Nat.pow_add, ← Nat.mul_assoc] at h
    exact Nat.div_lt_of_lt_mul (by rw [Nat.mul_comm]; exact h)

theorem toI_in {x : Int} (h1 : loB x = true) (h2 : hiB x = true) : (double.read x.toNat).toInt .zero = some (toI x) ∧ -9223372036854775808 ≤ toI x ∧ toI x ≤ 9223372036854775807 := by
  have lo : Datum.order (double.read x.toNat) (double.read cLo) = some .gt ∨ Datum.order (double.read x.toNat) (double.read cLo) = some .eq := by
    simpa [loB, ordN, Format.order] using h1
  have hi : Datum.order (double.read x.toNat) (double.read cHi) = some .lt := by
    simpa [hiB, ordN, Format.order] using h2
  unfold toI
  rw [rd_lo] at lo
  rw [rd_hi] at hi
  cases hd : double.read x.toNat with
  | nan s t => rw [hd] at hi; cases hi
  | infinity s =>
    rw [hd] at hi lo
    cases s
    · simp [Datum.order] at hi
    · simp [Datum.order] at lo
  | number s m i =>
    rw [hd] at hi lo
    have hz : (Datum.number s m i).toInt .zero = some (signed s (Toward.zero.cut s (m <<< i.toNat) (-i).toNat) 0) := rfl
    rw [hz]
    refine ⟨rfl, ?_⟩
    show -9223372036854775808 ≤ signed s _ 0 ∧ signed s _ 0 ≤ 9223372036854775807
    simp only [Datum.order, Option.some.injEq] at hi lo
    have hi' := cmp_lt hi
    have lo' := cmp_ge lo
    clear hi lo hz hd h1 h2
    unfold signed at *
    simp only [Nat.shiftLeft_eq, Nat.pow_zero, Nat.mul_one] at *
    cases s
    · simp only [Bool.false_eq_true, if_false] at *
      have := cut_bound_lt false m i 4503599627370496 (by omega)
      rw [Nat.shiftLeft_eq] at this
      omega
    · simp only [if_true] at *
      have := cut_bound true m i 4503599627370496 (by omega)
      rw [Nat.shiftLeft_eq] at this
      omega

end Fl
end Go.Proofs.YtdklaeppcjopoaaGreat

/- Conv: its contract. -/
namespace Go.Proofs.YtdklaeppcjopoaaGreat
open Go.RowKit
set_option linter.unusedVariables false

namespace Fl
/-- a whole number as a float -/
def nr (k x : Int) : Int := (floatOfInt .f64 (if Wd.sgnB k then Wd.sg x else x) : Nat)
def convA (k t x : Int) : Int × Int :=
  if (Wd.numB k && Wd.numB t) = false then (0, 10) else if Wd.isB k x = false then (0, 11) else if k = 10 ∧ t = 10 then (x, 0)
  else if k = 10 then (Wd.canon t (trunc x), 0) else if t = 10 then (nr k x, 0) else (Wd.canon t x, 0)
end Fl

theorem conv_in {x : Int} (h1 : Fl.loB x = true) (h2 : Fl.hiB x = true) (w : World) : (convert 178 2 (.float .f64 x.toNat)).run Tryz.prog w = .ok (.int .i64 (Fl.toI x)) w := by
  obtain ⟨a, b, c⟩ := Fl.toI_in h1 h2
  refine run_convert_float_int w 178 2 .f64 .i64 x.toNat (Fl.toI x) (by rw [Tryz.underlying178]; rfl) Tryz.underlying2 ?_
  unfold floatToIntVal
  have e : (FloatKind.decode .f64 x.toNat).toInt .zero = some (Fl.toI x) := a
  rw [e]
  have d : IntKind.i64.min ≤ Fl.toI x ∧ Fl.toI x ≤ IntKind.i64.max := ⟨b, c⟩
  simp only [if_pos d]

set_option maxHeartbeats 400000 in
theorem truncate_any (x : Int) (w : World) :
    Calls Tryz.prog 204 #[.int .u64 x] w fun e w' => e = .returned (.int .u64 (Fl.trunc x)) ∧ w' = w := by
  have f1 := frombits
  have Hc : Hid (∀ (h1 : Fl.loB x = true) (h2 : Fl.hiB x = true) (w : World), (convert 178 2 (.float .f64 x.toNat)).run Tryz.prog w = .ok (.int .i64 (Fl.toI x)) w) := fun h1 h2 w => conv_in h1 h2 w
  have Hl : Hid (Fl.loB x = (FloatKind.f64.format.order x.toNat 14114281232179134464 == some .gt || FloatKind.f64.format.order x.toNat 14114281232179134464 == some .eq)) := rfl
  have Hh : Hid (Fl.hiB x = (FloatKind.f64.format.order x.toNat 4890909195324358656 == some .lt)) := rfl
  cases o1 : FloatKind.f64.format.order x.toNat 14114281232179134464 with
  | none =>
    have Ht : Hid (Fl.trunc x = 9223372036854775808) := by show _ = _; unfold Fl.trunc; rw [Hl.out, o1]; rfl
    go_enter Tryz.func204, Tryz.ntmps204
    go_wp2
    go_ret
    exact ⟨ret_u64 Ht.out.symm, rfl⟩
  | some p =>
    cases o2 : FloatKind.f64.format.order x.toNat 4890909195324358656 with
    | none =>
      have Ht : Hid (Fl.trunc x = 9223372036854775808) := by show _ = _; unfold Fl.trunc; rw [Hl.out, Hh.out, o1, o2]; cases p <;> rfl
      cases p
      all_goals
        go_enter Tryz.func204, Tryz.ntmps204
        go_wp2
        go_ret
        exact ⟨ret_u64 Ht.out.symm, rfl⟩
    | some q =>
      cases p <;> cases q
      all_goals first
        | (have h1 : Fl.loB x = true := by rw [Hl.out, o1]; rfl
           have h2 : Fl.hiB x = true := by rw [Hh.out, o2]; rfl
           have Ht : Hid (Fl.trunc x = Fl.toI x % 18446744073709551616) := by show _ = _; unfold Fl.trunc; rw [h1, h2]; rfl
           have hc := Hc.out h1 h2
           clear h1 h2
           go_enter Tryz.func204, Tryz.ntmps204
           go_wp2
           go_ret
           exact ⟨ret_u64 (by rw [Ht.out, IntKind.wrap_u64]), rfl⟩)
        | (have Ht : Hid (Fl.trunc x = 9223372036854775808) := by show _ = _; unfold Fl.trunc; rw [Hl.out, Hh.out, o1, o2]; rfl
           go_enter Tryz.func204, Tryz.ntmps204
           go_wp2
           go_ret
           exact ⟨ret_u64 Ht.out.symm, rfl⟩)

theorem trunc_rng (x : Int) : 0 ≤ Fl.trunc x ∧ Fl.trunc x < 18446744073709551616 := by unfold Fl.trunc; split <;> omega

set_option maxHeartbeats 400000 in
theorem nearest_any (k x : Int) (w : World) (hx : 0 ≤ x) (hx2 : x < 18446744073709551616) :
    Calls Tryz.prog 205 #[.int .i64 k, .int .u64 x] w fun e w' => e = .returned (.int .u64 (Fl.nr k x)) ∧ w' = w := by
  have f2 := tobits
  cases hs : Wd.sgnB k
  · have Hn : Hid (Fl.nr k x = (floatOfInt .f64 x : Nat)) := by show _ = _; unfold Fl.nr; rw [hs]; rfl
    go_enter Tryz.func205, Tryz.ntmps205
    go_wp2_with (go_at_call 141; refine (signed_any _ _).mono ?_; rintro e w' ⟨rfl, rfl⟩)
    go_ret
    exact ⟨ret_u64 Hn.out.symm, rfl⟩
  · have Hn : Hid (Fl.nr k x = (floatOfInt .f64 (wrap64 x) : Nat)) := by show _ = _; unfold Fl.nr; rw [hs, sg_wrap]; rfl
    go_enter Tryz.func205, Tryz.ntmps205
    go_wp2_with (go_at_call 141; refine (signed_any _ _).mono ?_; rintro e w' ⟨rfl, rfl⟩)
    go_ret
    exact ⟨ret_u64 Hn.out.symm, rfl⟩

set_option maxHeartbeats 400000 in
theorem conv_kind (k t x : Int) (w : World) (h : (Wd.numB k && Wd.numB t) = false) :
    Calls Tryz.prog 193 #[.int .i64 k, .int .i64 t, .int .u64 x] w fun e w' => e = .returned (.tuple #[.int .u64 0, .int .i64 10]) ∧ w' = w := by
  have h' : Wd.numB k = false ∨ Wd.numB k = true ∧ Wd.numB t = false := by revert h; cases Wd.numB k <;> cases Wd.numB t <;> simp
  clear h
  rcases h' with h | ⟨h, g⟩
  all_goals
    go_enter Tryz.func193, Tryz.ntmps193
    go_wp2_with (go_at_call 203; refine (number_any _ _).mono ?_; rintro e w' ⟨rfl, rfl⟩)
    go_ret2
    exact ⟨rfl, rfl⟩

set_option maxHeartbeats 400000 in
theorem conv_form (k t x : Int) (w : World) (hx : 0 ≤ x) (hx2 : x < 18446744073709551616) (h : Wd.numB k = true) (g : Wd.numB t = true) (hi : Wd.isB k x = false) :
    Calls Tryz.prog 193 #[.int .i64 k, .int .i64 t, .int .u64 x] w fun e w' => e = .returned (.tuple #[.int .u64 0, .int .i64 11]) ∧ w' = w := by
  go_enter Tryz.func193, Tryz.ntmps193
  go_wp2_with (first | (go_at_call 203; refine (number_any _ _).mono ?_; rintro e w' ⟨rfl, rfl⟩) | (go_at_call 187; refine (is_any _ _ _ (by assumption) (by assumption)).mono ?_; rintro e w' ⟨rfl, rfl⟩))
  go_ret2
  exact ⟨rfl, rfl⟩

set_option maxHeartbeats 1000000 in
theorem conv_ok (k t x : Int) (w : World) (hx : 0 ≤ x) (hx2 : x < 18446744073709551616) (h : Wd.numB k = true) (g : Wd.numB t = true) (hi : Wd.isB k x = true) :
    Calls Tryz.prog 193 #[.int .i64 k, .int .i64 t, .int .u64 x] w fun e w' => e = .returned (.tuple #[.int .u64 (if k = 10 ∧ t = 10 then x else if k = 10 then Wd.canon t (Fl.trunc x) else if t = 10 then Fl.nr k x else Wd.canon t x), .int .i64 0]) ∧ w' = w := by
  have tr1 := (trunc_rng x).1
  have tr2 := (trunc_rng x).2
  by_cases hk : k = 10
  · by_cases ht : t = 10
    · subst hk ht
      rw [if_pos ⟨rfl, rfl⟩]
      go_enter Tryz.func193, Tryz.ntmps193
      go_wp2_with (first | (go_at_call 203; refine (number_any _ _).mono ?_; rintro e w' ⟨rfl, rfl⟩) | (go_at_call 187; refine (is_any _ _ _ (by assumption) (by assumption)).mono ?_; rintro e w' ⟨rfl, rfl⟩))
      go_ret2
      exact ⟨rfl, rfl⟩
    · subst hk
      rw [if_neg (fun h => ht h.2), if_pos rfl]
      have ht' : (t == 10) = false := by simpa using ht
      clear ht
      go_enter Tryz.func193, Tryz.ntmps193
      go_wp2_with (first | (go_at_call 203; refine (number_any _ _).mono ?_; rintro e w' ⟨rfl, rfl⟩) | (go_at_call 187; refine (is_any _ _ _ (by assumption) (by assumption)).mono ?_; rintro e w' ⟨rfl, rfl⟩) | (go_at_call 204; refine (truncate_any _ _).mono ?_; rintro e w' ⟨rfl, rfl⟩) | (go_at_call 137; refine (canon_any _ _ _ (by assumption) (by assumption)).mono ?_; rintro e w' ⟨rfl, rfl⟩))
      go_ret2
      exact ⟨rfl, rfl⟩
  · rw [if_neg (fun h => hk h.1), if_neg hk]
    have hk' : (k == 10) = false := by simpa using hk
    clear hk
    by_cases ht : t = 10
    · subst ht
      rw [if_pos rfl]
      go_enter Tryz.func193, Tryz.ntmps193
      go_wp2_with (first | (go_at_call 203; refine (number_any _ _).mono ?_; rintro e w' ⟨rfl, rfl⟩) | (go_at_call 187; refine (is_any _ _ _ (by assumption) (by assumption)).mono ?_; rintro e w' ⟨rfl, rfl⟩) | (go_at_call 205; refine (nearest_any _ _ _ (by assumption) (by assumption)).mono ?_; rintro e w' ⟨rfl, rfl⟩))
      go_ret2
      exact ⟨rfl, rfl⟩
    · rw [if_neg ht]
      have ht' : (t == 10) = false := by simpa using ht
      clear ht
      go_enter Tryz.func193, Tryz.ntmps193
      go_wp2_with (first | (go_at_call 203; refine (number_any _ _).mono ?_; rintro e w' ⟨rfl, rfl⟩) | (go_at_call 187; refine (is_any _ _ _ (by assumption) (by assumption)).mono ?_; rintro e w' ⟨rfl, rfl⟩) | (go_at_call 137; refine (canon_any _ _ _ (by assumption) (by assumption)).mono ?_; rintro e w' ⟨rfl, rfl⟩))
      go_ret2
      exact ⟨rfl, rfl⟩

theorem conv_any (k t x : Int) (w : World) (hx : 0 ≤ x) (hx2 : x < 18446744073709551616) :
    Calls Tryz.prog 193 #[.int .i64 k, .int .i64 t, .int .u64 x] w fun e w' => e = .returned (.tuple #[.int .u64 (Fl.convA k t x).1, .int .i64 (Fl.convA k t x).2]) ∧ w' = w := by
  cases hn : (Wd.numB k && Wd.numB t)
  · have e : Fl.convA k t x = (0, 10) := by unfold Fl.convA; rw [if_pos hn]
    rw [e]; exact conv_kind k t x w hn
  · obtain ⟨h, g⟩ : Wd.numB k = true ∧ Wd.numB t = true := by simpa using hn
    cases hi : Wd.isB k x
    · have e : Fl.convA k t x = (0, 11) := by unfold Fl.convA; rw [if_neg (by simp [hn]), if_pos hi]
      rw [e]; exact conv_form k t x w hx hx2 h g hi
    · have e : Fl.convA k t x = (if k = 10 ∧ t = 10 then x else if k = 10 then Wd.canon t (Fl.trunc x) else if t = 10 then Fl.nr k x else Wd.canon t x, 0) := by
        unfold Fl.convA; rw [if_neg (by simp [hn]), if_neg (by simp [hi])]
        repeat' split
        all_goals rfl
      rw [e]; exact conv_ok k t x w hx hx2 h g hi

end Go.Proofs.YtdklaeppcjopoaaGreat

/- mem.read and mem.write at each width: contracts. -/
namespace Go.Proofs.YtdklaeppcjopoaaGreat
open Go.RowKit
set_option linter.unusedVariables false

set_option maxHeartbeats 400000 in
theorem read8_any (b off n cap : Nat) (g : Nat → Int) (w : World) (hn : n ≤ 1) (hnc : n ≤ cap) (hg : Mm.Fit g) (hc : ∀ i, i < n → w.cell? ⟨b, off + i, none⟩ = some (.int .u8 (g i))) :
    Calls Tryz.prog 142 #[.slice (some ⟨b, off, none⟩) n cap] w fun e w' => e = .returned (.int .u8 (Mm.ld g 0 n)) ∧ w' = w := by
  have HC : Hid (∀ i, i < n → w.cell? ⟨b, off + i, none⟩ = some (.int .u8 (g i))) := hc
  clear hc
  go_enter Tryz.func142, Tryz.ntmps142
  go_wp2
  go_loop [3, 8] (fun x i => ∃ k : Nat, k ≤ n ∧ i = .int .i64 k ∧ x = .int .u8 (Mm.ld g 0 k)) (fun _ i => n - (intOf i).toNat)
  case atStart => exact ⟨0, Nat.zero_le _, rfl, rfl⟩
  case round =>
    obtain ⟨k, hk, rfl, rfl⟩ := hrel
    by_cases hlt : k < n
    · have c := HC.out k hlt
      have S : Hid (_ = _) := Mm.read_step (kd := .u8) rfl (Mm.ld_rng hg 0 k).1 (Mm.ld_rng hg 0 k).2 (hg k).1 (hg k).2 (show (256 : Int) ^ (k + 1) ≤ 2 ^ 8 from by
        obtain ⟨d, hd⟩ : ∃ d, 1 = k + 1 + d := ⟨1 - (k + 1), by omega⟩
        have hp : (0 : Int) < 256 ^ (k + 1) := Mm.pow_pos _
        have h2 : (256 : Int) ^ 1 = 256 ^ (k + 1) * 256 ^ d := by rw [← Int.pow_add, ← hd]
        have h3 := Int.mul_le_mul_of_nonneg_left (show (1 : Int) ≤ 256 ^ d from by have := Mm.pow_pos d; omega) (Int.le_of_lt hp)
        rw [Int.mul_one, ← h2] at h3
        exact h3)
      have r := Mm.ld_rng hg 0 k
      have f := hg k
      obtain ⟨r1, r2⟩ := r
      obtain ⟨f1, f2⟩ := f
      have E : Hid (Mm.ld g 0 (k + 1) = Mm.ld g 0 k + g k * 256 ^ k) := by show _ = _; rw [Mm.ld_succ, Nat.zero_add]
      generalize Mm.ld g 0 k = x at *
      generalize g k = y at *
      go_wp2
      go_round
      case rel => exact ⟨k + 1, by omega, by go_num, congrArg (Value.int _) (Eq.trans (by first | exact S.out | (have := S.out; rw [IntKind.wrap_u8] at this; exact this)) E.out.symm)⟩
      case measure => simp [intOf]; omega
    · obtain rfl : k = n := by omega
      go_wp2
      go_ret
      exact ⟨rfl, rfl⟩

set_option maxHeartbeats 400000 in
theorem read16_any (b off n cap : Nat) (g : Nat → Int) (w : World) (hn : n ≤ 2) (hnc : n ≤ cap) (hg : Mm.Fit g) (hc : ∀ i, i < n → w.cell? ⟨b, off + i, none⟩ = some (.int .u8 (g i))) :
    Calls Tryz.prog 143 #[.slice (some ⟨b, off, none⟩) n cap] w fun e w' => e = .returned (.int .u16 (Mm.ld g 0 n)) ∧ w' = w := by
  have HC : Hid (∀ i, i < n → w.cell? ⟨b, off + i, none⟩ = some (.int .u8 (g i))) := hc
  clear hc
  go_enter Tryz.func143, Tryz.ntmps143
  go_wp2
  go_loop [3, 8] (fun x i => ∃ k : Nat, k ≤ n ∧ i = .int .i64 k ∧ x = .int .u16 (Mm.ld g 0 k)) (fun _ i => n - (intOf i).toNat)
  case atStart => exact ⟨0, Nat.zero_le _, rfl, rfl⟩
  case round =>
    obtain ⟨k, hk, rfl, rfl⟩ := hrel
    by_cases hlt : k < n
    · have c := HC.out k hlt
      have S : Hid (_ = _) := Mm.read_step (kd := .u16) rfl (Mm.ld_rng hg 0 k).1 (Mm.ld_rng hg 0 k).2 (hg k).1 (hg k).2 (show (256 : Int) ^ (k + 1) ≤ 2 ^ 16 from by
        obtain ⟨d, hd⟩ : ∃ d, 2 = k + 1 + d := ⟨2 - (k + 1), by omega⟩
        have hp : (0 : Int) < 256 ^ (k + 1) := Mm.pow_pos _
        have h2 : (256 : Int) ^ 2 = 256 ^ (k + 1) * 256 ^ d := by rw [← Int.pow_add, ← hd]
        have h3 := Int.mul_le_mul_of_nonneg_left (show (1 : Int) ≤ 256 ^ d from by have := Mm.pow_pos d; omega) (Int.le_of_lt hp)
        rw [Int.mul_one, ← h2] at h3
        exact h3)
      have r := Mm.ld_rng hg 0 k
      have f := hg k
      obtain ⟨r1, r2⟩ := r
      obtain ⟨f1, f2⟩ := f
      have E : Hid (Mm.ld g 0 (k + 1) = Mm.ld g 0 k + g k * 256 ^ k) := by show _ = _; rw [Mm.ld_succ, Nat.zero_add]
      generalize Mm.ld g 0 k = x at *
      generalize g k = y at *
      go_wp2
      go_round
      case rel => exact ⟨k + 1, by omega, by go_num, congrArg (Value.int _) (Eq.trans (by first | exact S.out | (have := S.out; rw [IntKind.wrap_u16] at this; exact this)) E.out.symm)⟩
      case measure => simp [intOf]; omega
    · obtain rfl : k = n := by omega
      go_wp2
      go_ret
      exact ⟨rfl, rfl⟩

set_option maxHeartbeats 400000 in
theorem read32_any (b off n cap : Nat) (g : Nat → Int) (w : World) (hn : n ≤ 4) (hnc : n ≤ cap) (hg : Mm.Fit g) (hc : ∀ i, i < n → w.cell? ⟨b, off + i, none⟩ = some (.int .u8 (g i))) :
    Calls Tryz.prog 144 #[.slice (some ⟨b, off, none⟩) n cap] w fun e w' => e = .returned (.int .u32 (Mm.ld g 0 n)) ∧ w' = w := by
  have HC : Hid (∀ i, i < n → w.cell? ⟨b, off + i, none⟩ = some (.int .u8 (g i))) := hc
  clear hc
  go_enter Tryz.func144, Tryz.ntmps144
  go_wp2
  go_loop [3, 8] (fun x i => ∃ k : Nat, k ≤ n ∧ i = .int .i64 k ∧ x = .int .u32 (Mm.ld g 0 k)) (fun _ i => n - (intOf i).toNat)
  case atStart => exact ⟨0, Nat.zero_le _, rfl, rfl⟩
  case round =>
    obtain ⟨k, hk, rfl, rfl⟩ := hrel
    by_cases hlt : k < n
    · have c := HC.out k hlt
      have S : Hid (_ = _) := Mm.read_step (kd := .u32) rfl (Mm.ld_rng hg 0 k).1 (Mm.ld_rng hg 0 k).2 (hg k).1 (hg k).2 (show (256 : Int) ^ (k + 1) ≤ 2 ^ 32 from by
        obtain ⟨d, hd⟩ : ∃ d, 4 = k + 1 + d := ⟨4 - (k + 1), by omega⟩
        have hp : (0 : Int) < 256 ^ (k + 1) := Mm.pow_pos _
        have h2 : (256 : Int) ^ 4 = 256 ^ (k + 1) * 256 ^ d := by rw [← Int.pow_add, ← hd]
        have h3 := Int.mul_le_mul_of_nonneg_left (show (1 : Int) ≤ 256 ^ d from by have := Mm.pow_pos d; omega) (Int.le_of_lt hp)
        rw [Int.mul_one, ← h2] at h3
        exact h3)
      have r := Mm.ld_rng hg 0 k
      have f := hg k
      obtain ⟨r1, r2⟩ := r
      obtain ⟨f1, f2⟩ := f
      have E : Hid (Mm.ld g 0 (k + 1) = Mm.ld g 0 k + g k * 256 ^ k) := by show _ = _; rw [Mm.ld_succ, Nat.zero_add]
      generalize Mm.ld g 0 k = x at *
      generalize g k = y at *
      go_wp2
      go_round
      case rel => exact ⟨k + 1, by omega, by go_num, congrArg (Value.int _) (Eq.trans (by first | exact S.out | (have := S.out; rw [IntKind.wrap_u32] at this; exact this)) E.out.symm)⟩
      case measure => simp [intOf]; omega
    · obtain rfl : k = n := by omega
      go_wp2
      go_ret
      exact ⟨rfl, rfl⟩

set_option maxHeartbeats 400000 in
theorem read64_any (b off n cap : Nat) (g : Nat → Int) (w : World) (hn : n ≤ 8) (hnc : n ≤ cap) (hg : Mm.Fit g) (hc : ∀ i, i < n → w.cell? ⟨b, off + i, none⟩ = some (.int .u8 (g i))) :
    Calls Tryz.prog 145 #[.slice (some ⟨b, off, none⟩) n cap] w fun e w' => e = .returned (.int .u64 (Mm.ld g 0 n)) ∧ w' = w := by
  have HC : Hid (∀ i, i < n → w.cell? ⟨b, off + i, none⟩ = some (.int .u8 (g i))) := hc
  clear hc
  go_enter Tryz.func145, Tryz.ntmps145
  go_wp2
  go_loop [3, 8] (fun x i => ∃ k : Nat, k ≤ n ∧ i = .int .i64 k ∧ x = .int .u64 (Mm.ld g 0 k)) (fun _ i => n - (intOf i).toNat)
  case atStart => exact ⟨0, Nat.zero_le _, rfl, rfl⟩
  case round =>
    obtain ⟨k, hk, rfl, rfl⟩ := hrel
    by_cases hlt : k < n
    · have c := HC.out k hlt
      have S : Hid (_ = _) := Mm.read_step (kd := .u64) rfl (Mm.ld_rng hg 0 k).1 (Mm.ld_rng hg 0 k).2 (hg k).1 (hg k).2 (show (256 : Int) ^ (k + 1) ≤ 2 ^ 64 from by
        obtain ⟨d, hd⟩ : ∃ d, 8 = k + 1 + d := ⟨8 - (k + 1), by omega⟩
        have hp : (0 : Int) < 256 ^ (k + 1) := Mm.pow_pos _
        have h2 : (256 : Int) ^ 8 = 256 ^ (k + 1) * 256 ^ d := by rw [← Int.pow_add, ← hd]
        have h3 := Int.mul_le_mul_of_nonneg_left (show (1 : Int) ≤ 256 ^ d from by have := Mm.pow_pos d; omega) (Int.le_of_lt hp)
        rw [Int.mul_one, ← h2] at h3
        exact h3)
      have r := Mm.ld_rng hg 0 k
      have f := hg k
      obtain ⟨r1, r2⟩ := r
      obtain ⟨f1, f2⟩ := f
      have E : Hid (Mm.ld g 0 (k + 1) = Mm.ld g 0 k + g k * 256 ^ k) := by show _ = _; rw [Mm.ld_succ, Nat.zero_add]
      generalize Mm.ld g 0 k = x at *
      generalize g k = y at *
      go_wp2
      go_round
      case rel => exact ⟨k + 1, by omega, by go_num, congrArg (Value.int _) (Eq.trans (by first | exact S.out | (have := S.out; rw [IntKind.wrap_u64] at this; exact this)) E.out.symm)⟩
      case measure => simp [intOf]; omega
    · obtain rfl : k = n := by omega
      go_wp2
      go_ret
      exact ⟨rfl, rfl⟩

end Go.Proofs.YtdklaeppcjopoaaGreat

/- mem.write at each width: contracts. -/
namespace Go.Proofs.YtdklaeppcjopoaaGreat
open Go.RowKit
set_option linter.unusedVariables false

theorem row_put {w : World} {D S a k : Nat} {t : TypeId} {m g : Nat → Int} (h : w.rowIs D t S (fun i => .int .u8 (Mm.pt m a k g i))) :
    (w.setCell ⟨D, a + k, none⟩ (.int .u8 (g k))).rowIs D t S (fun i => .int .u8 (Mm.pt m a (k + 1) g i)) := by
  refine (h.set (a + k) _).congr fun i _ => ?_
  rw [← Mm.pt_succ]
  show (if i = a + k then Value.int .u8 (g k) else _) = _
  by_cases e : i = a + k
  · simp [e]
  · simp [e]

theorem row_put' {w : World} {D S a k : Nat} {t : TypeId} {m g : Nat → Int} {y : Int} (h : w.rowIs D t S (fun i => .int .u8 (Mm.pt m a k g i))) (e : y = g k) :
    (w.setCell ⟨D, a + k, none⟩ (.int .u8 y)).rowIs D t S (fun i => .int .u8 (Mm.pt m a (k + 1) g i)) := by rw [e]; exact row_put h

theorem by8_top {x : Int} {k : Nat} (h : k = 0) (x1 : 0 ≤ x) (x2 : x < 256) : x / 2 ^ (8 * k) = Mm.by8 x k := by subst h; simp [Mm.by8]; omega

theorem by8_eq (x : Int) (k : Nat) : x / 2 ^ (8 * k) % 256 = Mm.by8 x k := by rw [Mm.pow8]; rfl

set_option maxHeartbeats 400000 in
theorem write8_any (D S off n cap : Nat) (m : Nat → Int) (x : Int) (w : World) (x1 : 0 ≤ x) (x2 : x < 256) (hn : n ≤ 1) (hnc : n ≤ cap) (hS : off + n ≤ S) (hr : w.rowIs D 5 S (fun i => .int .u8 (m i))) :
    Calls Tryz.prog 207 #[.slice (some ⟨D, off, none⟩) n cap, .int .u8 x] w fun e w' => e = .returned (.tuple #[]) ∧ w'.rowIs D 5 S (fun i => .int .u8 (Mm.pt m off n (Mm.by8 x) i)) ∧ w.grownBy w' (some D) := by
  go_enter Tryz.func207, Tryz.ntmps207
  go_wp2
  go_loopw [7] (fun i wr => ∃ k : Nat, k ≤ n ∧ i = .int .i64 k ∧ wr.rowIs D 5 S (fun i => .int .u8 (Mm.pt m off k (Mm.by8 x) i)) ∧ w.grownBy wr (some D)) (fun i _ => n - (intOf i).toNat)
  case atStart => exact ⟨0, Nat.zero_le _, rfl, by rw [Mm.pt_zero]; exact hr, World.grownBy.refl _ _⟩
  case round =>
    obtain ⟨k, hk, rfl, hrow, hgr⟩ := hrel
    by_cases hlt : k < n
    · have c := hrow.cell (i := off + k) (by omega)
      have f := hrow.frozen (off + k)
      go_wp2
      go_roundw
      case rel => exact ⟨k + 1, by omega, by go_num, row_put' hrow (by first | exact by8_eq x k | (rw [IntKind.wrap_u8]; exact by8_eq x k) | exact by8_top (by omega) (by omega) (by omega)), grown_trans hgr (grown_setCell _ _ _ _)⟩
      case measure => simp [intOf]; omega
    · obtain rfl : k = n := by omega
      go_wp2
      go_end0
      exact ⟨rfl, hrow, hgr⟩

set_option maxHeartbeats 400000 in
theorem write16_any (D S off n cap : Nat) (m : Nat → Int) (x : Int) (w : World) (x1 : 0 ≤ x) (x2 : x < 65536) (hn : n ≤ 2) (hnc : n ≤ cap) (hS : off + n ≤ S) (hr : w.rowIs D 5 S (fun i => .int .u8 (m i))) :
    Calls Tryz.prog 208 #[.slice (some ⟨D, off, none⟩) n cap, .int .u16 x] w fun e w' => e = .returned (.tuple #[]) ∧ w'.rowIs D 5 S (fun i => .int .u8 (Mm.pt m off n (Mm.by8 x) i)) ∧ w.grownBy w' (some D) := by
  go_enter Tryz.func208, Tryz.ntmps208
  go_wp2
  go_loopw [7] (fun i wr => ∃ k : Nat, k ≤ n ∧ i = .int .i64 k ∧ wr.rowIs D 5 S (fun i => .int .u8 (Mm.pt m off k (Mm.by8 x) i)) ∧ w.grownBy wr (some D)) (fun i _ => n - (intOf i).toNat)
  case atStart => exact ⟨0, Nat.zero_le _, rfl, by rw [Mm.pt_zero]; exact hr, World.grownBy.refl _ _⟩
  case round =>
    obtain ⟨k, hk, rfl, hrow, hgr⟩ := hrel
    by_cases hlt : k < n
    · have c := hrow.cell (i := off + k) (by omega)
      have f := hrow.frozen (off + k)
      go_wp2
      go_roundw
      case rel => exact ⟨k + 1, by omega, by go_num, row_put' hrow (by first | exact by8_eq x k | (rw [IntKind.wrap_u8]; exact by8_eq x k) | exact by8_top (by omega) (by omega) (by omega)), grown_trans hgr (grown_setCell _ _ _ _)⟩
      case measure => simp [intOf]; omega
    · obtain rfl : k = n := by omega
      go_wp2
      go_end0
      exact ⟨rfl, hrow, hgr⟩

set_option maxHeartbeats 400000 in
theorem write32_any (D S off n cap : Nat) (m : Nat → Int) (x : Int) (w : World) (x1 : 0 ≤ x) (x2 : x < 4294967296) (hn : n ≤ 4) (hnc : n ≤ cap) (hS : off + n ≤ S) (hr : w.rowIs D 5 S (fun i => .int .u8 (m i))) :
    Calls Tryz.prog 209 #[.slice (some ⟨D, off, none⟩) n cap, .int .u32 x] w fun e w' => e = .returned (.tuple #[]) ∧ w'.rowIs D 5 S (fun i => .int .u8 (Mm.pt m off n (Mm.by8 x) i)) ∧ w.grownBy w' (some D) := by
  go_enter Tryz.func209, Tryz.ntmps209
  go_wp2
  go_loopw [7] (fun i wr => ∃ k : Nat, k ≤ n ∧ i = .int .i64 k ∧ wr.rowIs D 5 S (fun i => .int .u8 (Mm.pt m off k (Mm.by8 x) i)) ∧ w.grownBy wr (some D)) (fun i _ => n - (intOf i).toNat)
  case atStart => exact ⟨0, Nat.zero_le _, rfl, by rw [Mm.pt_zero]; exact hr, World.grownBy.refl _ _⟩
  case round =>
    obtain ⟨k, hk, rfl, hrow, hgr⟩ := hrel
    by_cases hlt : k < n
    · have c := hrow.cell (i := off + k) (by omega)
      have f := hrow.frozen (off + k)
      go_wp2
      go_roundw
      case rel => exact ⟨k + 1, by omega, by go_num, row_put' hrow (by first | exact by8_eq x k | (rw [IntKind.wrap_u8]; exact by8_eq x k) | exact by8_top (by omega) (by omega) (by omega)), grown_trans hgr (grown_setCell _ _ _ _)⟩
      case measure => simp [intOf]; omega
    · obtain rfl : k = n := by omega
      go_wp2
      go_end0
      exact ⟨rfl, hrow, hgr⟩

set_option maxHeartbeats 400000 in
theorem write64_any (D S off n cap : Nat) (m : Nat → Int) (x : Int) (w : World) (x1 : 0 ≤ x) (x2 : x < 18446744073709551616) (hn : n ≤ 8) (hnc : n ≤ cap) (hS : off + n ≤ S) (hr : w.rowIs D 5 S (fun i => .int .u8 (m i))) :
    Calls Tryz.prog 210 #[.slice (some ⟨D, off, none⟩) n cap, .int .u64 x] w fun e w' => e = .returned (.tuple #[]) ∧ w'.rowIs D 5 S (fun i => .int .u8 (Mm.pt m off n (Mm.by8 x) i)) ∧ w.grownBy w' (some D) := by
  go_enter Tryz.func210, Tryz.ntmps210
  go_wp2
  go_loopw [7] (fun i wr => ∃ k : Nat, k ≤ n ∧ i = .int .i64 k ∧ wr.rowIs D 5 S (fun i => .int .u8 (Mm.pt m off k (Mm.by8 x) i)) ∧ w.grownBy wr (some D)) (fun i _ => n - (intOf i).toNat)
  case atStart => exact ⟨0, Nat.zero_le _, rfl, by rw [Mm.pt_zero]; exact hr, World.grownBy.refl _ _⟩
  case round =>
    obtain ⟨k, hk, rfl, hrow, hgr⟩ := hrel
    by_cases hlt : k < n
    · have c := hrow.cell (i := off + k) (by omega)
      have f := hrow.frozen (off + k)
      go_wp2
      go_roundw
      case rel => exact ⟨k + 1, by omega, by go_num, row_put' hrow (by first | exact by8_eq x k | (rw [IntKind.wrap_u8]; exact by8_eq x k) | exact by8_top (by omega) (by omega) (by omega)), grown_trans hgr (grown_setCell _ _ _ _)⟩
      case measure => simp [intOf]; omega
    · obtain rfl : k = n := by omega
      go_wp2
      go_end0
      exact ⟨rfl, hrow, hgr⟩

end Go.Proofs.YtdklaeppcjopoaaGreat

/- mem.pick, mem.lay, (*Mem).room, New, Size: contracts. -/
namespace Go.Proofs.YtdklaeppcjopoaaGreat
open Go.RowKit
set_option linter.unusedVariables false

set_option maxHeartbeats 400000 in
theorem pick_any (b off n cap : Nat) (g : Nat → Int) (w : World) (hn : n = 1 ∨ n = 2 ∨ n = 4 ∨ n = 8) (hnc : n ≤ cap) (hg : Mm.Fit g) (hc : ∀ i, i < n → w.cell? ⟨b, off + i, none⟩ = some (.int .u8 (g i))) :
    Calls Tryz.prog 138 #[.slice (some ⟨b, off, none⟩) n cap] w fun e w' => e = .returned (.int .u64 (Mm.ld g 0 n)) ∧ w' = w := by
  have HC : Hid (∀ i, i < n → w.cell? ⟨b, off + i, none⟩ = some (.int .u8 (g i))) := hc
  clear hc
  have r := Mm.ld_rng hg 0 n
  obtain ⟨r1, r2⟩ := r
  rcases hn with rfl | rfl | rfl | rfl
  all_goals
    generalize hz : Mm.ld g 0 _ = z at *
    have HZ : Hid (Mm.ld g 0 _ = z) := hz
    clear hz
    simp only [Int.reducePow] at r2
    go_enter Tryz.func138, Tryz.ntmps138
    go_wp2_with (first
      | (go_at_call 142; refine (read8_any b off _ cap g _ (by decide) (by assumption) (by assumption) HC.out).mono ?_; rw [HZ.out]; rintro e w' ⟨rfl, rfl⟩)
      | (go_at_call 143; refine (read16_any b off _ cap g _ (by decide) (by assumption) (by assumption) HC.out).mono ?_; rw [HZ.out]; rintro e w' ⟨rfl, rfl⟩)
      | (go_at_call 144; refine (read32_any b off _ cap g _ (by decide) (by assumption) (by assumption) HC.out).mono ?_; rw [HZ.out]; rintro e w' ⟨rfl, rfl⟩)
      | (go_at_call 145; refine (read64_any b off _ cap g _ (by decide) (by assumption) (by assumption) HC.out).mono ?_; rw [HZ.out]; rintro e w' ⟨rfl, rfl⟩))
    go_ret
    exact ⟨rfl, rfl⟩

theorem lay_eq {w' : World} {D S off n N : Nat} {t : TypeId} {m : Nat → Int} {x : Int} (h : w'.rowIs D t S (fun i => .int .u8 (Mm.pt m off n (Mm.by8 (x % 256 ^ N)) i))) (hn : n ≤ N) :
    w'.rowIs D t S (fun i => .int .u8 (Mm.pt m off n (Mm.by8 x) i)) := by
  rw [Mm.pt_congr (g' := Mm.by8 x) (fun i hi => Mm.by8_mod x i N (by omega))] at h
  exact h

set_option maxHeartbeats 400000 in
theorem lay_any (D S off n cap : Nat) (m : Nat → Int) (x : Int) (w : World) (hn : n = 1 ∨ n = 2 ∨ n = 4 ∨ n = 8) (x1 : 0 ≤ x) (x2 : x < 18446744073709551616) (hnc : n ≤ cap) (hS : off + n ≤ S) (hr : w.rowIs D 5 S (fun i => .int .u8 (m i))) :
    Calls Tryz.prog 206 #[.slice (some ⟨D, off, none⟩) n cap, .int .u64 x] w fun e w' => e = .returned (.tuple #[]) ∧ w'.rowIs D 5 S (fun i => .int .u8 (Mm.pt m off n (Mm.by8 x) i)) ∧ w.grownBy w' (some D) := by
  rcases hn with rfl | rfl | rfl | rfl
  · have y1 : 0 ≤ x % 256 := by omega
    have y2 : x % 256 < 256 := by omega
    have L := fun w' => @lay_eq w' D S off 1 1 5 m x
    have HX : Hid (x % 256 ^ 1 = x % 256) := rfl
    go_enter Tryz.func206, Tryz.ntmps206
    go_wp2_with (go_at_call 207; refine (write8_any D S off _ cap m _ _ (by first | assumption | omega) (by first | assumption | omega) (by decide) (by assumption) (by assumption) (by assumption)).mono ?_; rintro e w' ⟨rfl, hr', hg'⟩)
    go_end0
    exact ⟨rfl, L _ (by rw [HX.out]; exact hr') (by decide), hg'⟩
  · have y1 : 0 ≤ x % 65536 := by omega
    have y2 : x % 65536 < 65536 := by omega
    have L := fun w' => @lay_eq w' D S off 2 2 5 m x
    have HX : Hid (x % 256 ^ 2 = x % 65536) := rfl
    go_enter Tryz.func206, Tryz.ntmps206
    go_wp2_with (go_at_call 208; refine (write16_any D S off _ cap m _ _ (by first | assumption | omega) (by first | assumption | omega) (by decide) (by assumption) (by assumption) (by assumption)).mono ?_; rintro e w' ⟨rfl, hr', hg'⟩)
    go_end0
    exact ⟨rfl, L _ (by rw [HX.out]; exact hr') (by decide), hg'⟩
  · have y1 : 0 ≤ x % 4294967296 := by omega
    have y2 : x % 4294967296 < 4294967296 := by omega
    have L := fun w' => @lay_eq w' D S off 4 4 5 m x
    have HX : Hid (x % 256 ^ 4 = x % 4294967296) := rfl
    go_enter Tryz.func206, Tryz.ntmps206
    go_wp2_with (go_at_call 209; refine (write32_any D S off _ cap m _ _ (by first | assumption | omega) (by first | assumption | omega) (by decide) (by assumption) (by assumption) (by assumption)).mono ?_; rintro e w' ⟨rfl, hr', hg'⟩)
    go_end0
    exact ⟨rfl, L _ (by rw [HX.out]; exact hr') (by decide), hg'⟩
  · go_enter Tryz.func206, Tryz.ntmps206
    go_wp2_with (go_at_call 210; refine (write64_any D S off _ cap m _ _ (by first | assumption | omega) (by first | assumption | omega) (by decide) (by assumption) (by assumption) (by assumption)).mono ?_; rintro e w' ⟨rfl, hr', hg'⟩)
    go_end0
    exact ⟨rfl, hr', hg'⟩

abbrev IsM := IsMem 151

theorem IsMem.cell {t : TypeId} {w : World} {B D S : Nat} {m : Nat → Int} (h : IsMem t w B D S m) : w.cell? ⟨B, 0, none⟩ = some (.slice (some ⟨D, 0, none⟩) S S) := h.head.cell (i := 0) (by omega)

set_option maxHeartbeats 400000 in
theorem room_none (B D S : Nat) (m : Nat → Int) (a : Int) (w : World) (hm : IsM w B D S m) :
    Calls Tryz.prog 77 #[.pointer (some ⟨B, 0, none⟩), .int .u64 a, .int .i64 0] w fun e w' => e = .returned (.tuple #[.slice none 0 0, .bool true]) ∧ w' = w := by
  go_enter Tryz.func77, Tryz.ntmps77
  go_wp2
  go_ret2
  exact ⟨rfl, rfl⟩

set_option maxRecDepth 20000 in
set_option maxHeartbeats 400000 in
theorem room_in (B D S : Nat) (m : Nat → Int) (a n : Nat) (w : World) (hm : IsM w B D S m) (hS : (S : Int) ≤ 1048576) (h0 : 0 < n) (h1 : (4096 : Int) ≤ a) (h2 : a + n ≤ S) :
    Calls Tryz.prog 77 #[.pointer (some ⟨B, 0, none⟩), .int .u64 a, .int .i64 n] w fun e w' => e = .returned (.tuple #[.slice (some ⟨D, a, none⟩) n n, .bool true]) ∧ w' = w := by
  have c := hm.cell
  go_enter Tryz.func77, Tryz.ntmps77
  go_wp2
  go_ret2
  have e : a + n - a = n := by omega
  refine ⟨?_, rfl⟩
  show Ending.returned (.tuple #[.slice (some ⟨D, a, none⟩) (a + n - a) (a + n - a), .bool true]) = _
  rw [e]

set_option maxHeartbeats 400000 in
theorem room_out (B D S : Nat) (m : Nat → Int) (a n : Int) (w : World) (hm : IsM w B D S m) (hS : (S : Int) ≤ 1048576) (a1 : 0 ≤ a) (a2 : a < 18446744073709551616) (n1 : -9223372036854775808 ≤ n) (n2 : n ≤ 9223372036854775807) (h0 : (n == 0) = false) (h : n < 0 ∨ a < 4096 ∨ (S : Int) < a + n) :
    Calls Tryz.prog 77 #[.pointer (some ⟨B, 0, none⟩), .int .u64 a, .int .i64 n] w fun e w' => e = .returned (.tuple #[.slice none 0 0, .bool false]) ∧ w' = w := by
  have c := hm.cell
  go_enter Tryz.func77, Tryz.ntmps77
  go_wp2
  all_goals (go_ret2; exact ⟨rfl, rfl⟩)

end Go.Proofs.YtdklaeppcjopoaaGreat

/- mem.New, Size and the page's own New, May: contracts. -/
namespace Go.Proofs.YtdklaeppcjopoaaGreat
open Go.RowKit
set_option linter.unusedVariables false

theorem info_u8 : (Tryz.prog.info? 5).map (fun i => (i.zero, i.size, i.bytes)) = some (some (.int .u8 0), 1, 1) := by kernel_rfl

theorem born (t : TypeId) (w : World) (S : Nat) : IsMem t ((w.alloc (.cells (madeCells #[.int .u8 0] S) 5)).alloc (.cells #[.slice (some ⟨w.heap.size, 0, none⟩) S S] t)) (w.heap.size + 1) w.heap.size S (fun _ => 0) ∧
    w.grownBy ((w.alloc (.cells (madeCells #[.int .u8 0] S) 5)).alloc (.cells #[.slice (some ⟨w.heap.size, 0, none⟩) S S] t)) none := by
  refine ⟨⟨?_, (World.rowIs_made w _ S _).alloc _, fun _ => by omega⟩, grown_trans (World.grownBy_alloc _ _ _) (World.grownBy_alloc _ _ _)⟩
  have := World.rowIs_alloc (w.alloc (.cells (madeCells #[.int .u8 0] S) 5)) #[.slice (some ⟨w.heap.size, 0, none⟩) S S] t (fun _ => .slice (some ⟨w.heap.size, 0, none⟩) S S)
    (fun i hi => by simp at hi; subst hi; rfl)
  simpa using this

set_option maxRecDepth 40000 in
set_option maxHeartbeats 400000 in
theorem new_in (S : Nat) (w : World) (h1 : (8192 : Int) ≤ S) (h2 : (S : Int) ≤ 1048576) :
    Calls Tryz.prog 47 #[.int .i64 S] w fun e w' => e = .returned (.tuple #[.pointer (some ⟨w.heap.size + 1, 0, none⟩), .int .i64 0]) ∧ IsM w' (w.heap.size + 1) w.heap.size S (fun _ => 0) ∧ w.grownBy w' none := by
  have hmk := run_make_row' (P := Tryz.prog) 24 5 _ _ Tryz.underlying24 info_u8 rfl .i64 .i64 S (by omega) (by omega)
  have HB : Hid _ := born 151 w S
  go_enter Tryz.func47, Tryz.ntmps47
  go_wp2
  go_ret2
  exact ⟨rfl, HB.out⟩

set_option maxHeartbeats 400000 in
theorem new_out (s : Int) (w : World) (h : s < 8192 ∨ 1048576 < s) :
    Calls Tryz.prog 47 #[.int .i64 s] w fun e w' => e = .returned (.tuple #[.pointer none, .int .i64 20]) ∧ w' = w := by
  go_enter Tryz.func47, Tryz.ntmps47
  go_wp2
  all_goals (go_ret2; exact ⟨rfl, rfl⟩)

end Go.Proofs.YtdklaeppcjopoaaGreat

/- (*Mem).Load, Store: contracts. -/
namespace Go.Proofs.YtdklaeppcjopoaaGreat
open Go.RowKit
set_option linter.unusedVariables false

namespace Mm
/-- do n bytes from a on lie in a memory of S bytes? -/
def hasB (S : Nat) (a n : Int) : Bool := decide (4096 ≤ a) && decide (a + n ≤ S)
/-- what Load, Store answer -/
def lE (S : Nat) (k a : Int) : Int := if Wd.wordB k then (if hasB S a (Wd.by' k) then 0 else 21) else 10
def lV (S : Nat) (m : Nat → Int) (k a : Int) : Int := if Wd.wordB k && hasB S a (Wd.by' k) then Wd.canon k (ld m a.toNat (Wd.by' k).toNat) else 0
def sE (S : Nat) (k a x : Int) : Int := if Wd.wordB k then (if Wd.isB k x then (if hasB S a (Wd.by' k) then 0 else 21) else 11) else 10
def sM (S : Nat) (m : Nat → Int) (k a x : Int) : Nat → Int := if Wd.wordB k && Wd.isB k x && hasB S a (Wd.by' k) then pt m a.toNat (Wd.by' k).toNat (by8 x) else m
theorem by_cases (k : Int) : (Wd.wordB k = false ∧ Wd.by' k = 0) ∨ (Wd.wordB k = true ∧ (Wd.by' k = 1 ∨ Wd.by' k = 2 ∨ Wd.by' k = 4 ∨ Wd.by' k = 8)) := by
  rcases Wd.kinds k with h | h | h | h | h | h | h | h | h | h | h | h
  all_goals first
    | (subst h; right; exact ⟨rfl, by decide⟩)
    | (left; constructor
       · unfold Wd.wordB; simp; omega
       · unfold Wd.by' Wd.wid; rw [if_neg (by omega), if_neg (by omega), if_neg (by omega), if_neg (by omega), if_neg (by omega)]; rfl)
theorem lE_no {S : Nat} {k a : Int} (h : Wd.wordB k = false) : lE S k a = 10 := by unfold lE; rw [h]; rfl
theorem lV_no {S : Nat} {m : Nat → Int} {k a : Int} (h : Wd.wordB k = false) : lV S m k a = 0 := by unfold lV; rw [h]; rfl
theorem lE_out {S : Nat} {k a : Int} (h : Wd.wordB k = true) (h2 : hasB S a (Wd.by' k) = false) : lE S k a = 21 := by unfold lE; rw [h, h2]; rfl
theorem lV_out {S : Nat} {m : Nat → Int} {k a : Int} (h2 : hasB S a (Wd.by' k) = false) : lV S m k a = 0 := by unfold lV; rw [h2, Bool.and_false]; rfl
theorem lE_in {S : Nat} {k a : Int} (h : Wd.wordB k = true) (h2 : hasB S a (Wd.by' k) = true) : lE S k a = 0 := by unfold lE; rw [h, h2]; rfl
theorem lV_in {S : Nat} {m : Nat → Int} {k a : Int} (h : Wd.wordB k = true) (h2 : hasB S a (Wd.by' k) = true) : lV S m k a = Wd.canon k (ld m a.toNat (Wd.by' k).toNat) := by unfold lV; rw [h, h2]; rfl
theorem sE_no {S : Nat} {k a x : Int} (h : Wd.wordB k = false) : sE S k a x = 10 := by unfold sE; rw [h]; rfl
theorem sM_no {S : Nat} {m : Nat → Int} {k a x : Int} (h : Wd.wordB k = false) : sM S m k a x = m := by unfold sM; rw [h]; rfl
theorem sE_form {S : Nat} {k a x : Int} (h : Wd.wordB k = true) (h1 : Wd.isB k x = false) : sE S k a x = 11 := by unfold sE; rw [h, h1]; rfl
theorem sM_form {S : Nat} {m : Nat → Int} {k a x : Int} (h1 : Wd.isB k x = false) : sM S m k a x = m := by unfold sM; rw [h1, Bool.and_false]; rfl
theorem sE_out {S : Nat} {k a x : Int} (h : Wd.wordB k = true) (h1 : Wd.isB k x = true) (h2 : hasB S a (Wd.by' k) = false) : sE S k a x = 21 := by unfold sE; rw [h, h1, h2]; rfl
theorem sM_out {S : Nat} {m : Nat → Int} {k a x : Int} (h2 : hasB S a (Wd.by' k) = false) : sM S m k a x = m := by unfold sM; rw [h2, Bool.and_false]; rfl
theorem sE_in {S : Nat} {k a x : Int} (h : Wd.wordB k = true) (h1 : Wd.isB k x = true) (h2 : hasB S a (Wd.by' k) = true) : sE S k a x = 0 := by unfold sE; rw [h, h1, h2]; rfl
theorem sM_in {S : Nat} {m : Nat → Int} {k a x : Int} (h : Wd.wordB k = true) (h1 : Wd.isB k x = true) (h2 : hasB S a (Wd.by' k) = true) : sM S m k a x = pt m a.toNat (Wd.by' k).toNat (by8 x) := by unfold sM; rw [h, h1, h2]; rfl
theorem has_in {S : Nat} {a n : Int} (h : hasB S a n = true) : 4096 ≤ a ∧ a + n ≤ S := by unfold hasB at h; simpa using h
theorem has_out {S : Nat} {a n : Int} (h : hasB S a n = false) : a < 4096 ∨ (S : Int) < a + n := by unfold hasB at h; simp at h; omega
theorem pow_le {n : Nat} (h : n = 1 ∨ n = 2 ∨ n = 4 ∨ n = 8) : (256 : Int) ^ n ≤ 18446744073709551616 := by rcases h with rfl | rfl | rfl | rfl <;> decide
end Mm

theorem row_cells {w : World} {D S a n : Nat} {m : Nat → Int} {t : TypeId} (h : w.rowIs D t S (fun i => .int .u8 (m i))) (hS : a + n ≤ S) : ∀ i, i < n → w.cell? ⟨D, a + i, none⟩ = some (.int .u8 ((fun i => m (a + i)) i)) :=
  fun i hi => h.cell (i := a + i) (by omega)

set_option maxHeartbeats 800000 in
theorem load_any (B D S : Nat) (m : Nat → Int) (a k : Int) (w : World) (hm : IsM w B D S m) (hS : (S : Int) ≤ 1048576) (a1 : 0 ≤ a) (a2 : a < 18446744073709551616) :
    Calls Tryz.prog 112 #[.pointer (some ⟨B, 0, none⟩), .int .u64 a, .int .i64 k] w fun e w' => e = .returned (.tuple #[.int .u64 (Mm.lV S m k a), .int .i64 (Mm.lE S k a)]) ∧ w' = w := by
  rcases Mm.by_cases k with ⟨hk, hb⟩ | ⟨hk, hb⟩
  · have hb0 : (Wd.by' k == 0) = true := by rw [hb]; rfl
    have HE : Hid (Mm.lE S k a = 10) := Mm.lE_no hk
    have HV : Hid (Mm.lV S m k a = 0) := Mm.lV_no hk
    clear hb
    go_enter Tryz.func112, Tryz.ntmps112
    go_wp2_with (go_at_call 136; refine (bytes_any _ _).mono ?_; rintro e w' ⟨rfl, rfl⟩)
    go_ret2
    rw [HE.out, HV.out]
    exact ⟨rfl, rfl⟩
  · have hb0 : (Wd.by' k == 0) = false := by rcases hb with h | h | h | h <;> rw [h] <;> rfl
    cases h2 : Mm.hasB S a (Wd.by' k)
    · have HE : Hid (Mm.lE S k a = 21) := Mm.lE_out hk h2
      have HV : Hid (Mm.lV S m k a = 0) := Mm.lV_out h2
      have ho := Mm.has_out h2
      have hlo : -9223372036854775808 ≤ Wd.by' k := by omega
      have hhi : Wd.by' k ≤ 9223372036854775807 := by omega
      obtain ⟨n, hn⟩ : ∃ n, Wd.by' k = n := ⟨_, rfl⟩
      rw [hn] at hb0 ho hlo hhi
      have HN : Hid (Wd.by' k = n) := hn
      have HO : Hid (a < 4096 ∨ (S : Int) < a + n) := ho
      clear hb h2 ho hn
      go_enter Tryz.func112, Tryz.ntmps112
      go_wp2_with (first
        | (go_at_call 136; refine (bytes_any _ _).mono ?_; rw [HN.out]; rintro e w' ⟨rfl, rfl⟩)
        | (go_at_call 77; refine (room_out B D S m _ _ _ hm hS a1 a2 hlo hhi hb0 (Or.inr HO.out)).mono ?_; rintro e w' ⟨rfl, rfl⟩))
      go_ret2
      rw [HE.out, HV.out]
      exact ⟨rfl, rfl⟩
    · have HE : Hid (Mm.lE S k a = 0) := Mm.lE_in hk h2
      obtain ⟨ha, hs⟩ := Mm.has_in h2
      obtain ⟨A, rfl⟩ := Int.eq_ofNat_of_zero_le a1
      obtain ⟨n, hn⟩ : ∃ n : Nat, Wd.by' k = n := ⟨(Wd.by' k).toNat, by omega⟩
      have HV : Hid (Mm.lV S m k A = Wd.canon k (Mm.ld (fun i => m (A + i)) 0 n)) := by
        show _ = _
        rw [Mm.lV_in hk h2, hn, Int.toNat_natCast, Int.toNat_natCast, Mm.ld_shift]
      have hf : Mm.Fit (fun i => m (A + i)) := fun i => hm.fit (A + i)
      have hr := Mm.ld_rng hf 0 n
      have hn8 : n = 1 ∨ n = 2 ∨ n = 4 ∨ n = 8 := by omega
      have hp := Mm.pow_le hn8
      have r1 : 0 ≤ Mm.ld (fun i => m (A + i)) 0 n := hr.1
      have r2 : Mm.ld (fun i => m (A + i)) 0 n < 18446744073709551616 := by omega
      have HN : Hid (Wd.by' k = n) := hn
      have HC : Hid (∀ i, i < n → w.cell? ⟨D, A + i, none⟩ = some (.int .u8 ((fun i => m (A + i)) i))) := row_cells hm.row (by omega)
      have n0 : (((n : Nat) : Int) == 0) = false := by rw [hn] at hb0; exact hb0
      have npos : 0 < n := by omega
      have HS : Hid (A + n ≤ S) := (show A + n ≤ S from by omega)
      have H8 : Hid (n = 1 ∨ n = 2 ∨ n = 4 ∨ n = 8) := hn8
      have HF : Hid (Mm.Fit (fun i => m (A + i))) := hf
      clear hr hp hb hn hb0 hn8 hs h2 a1 hf
      go_enter Tryz.func112, Tryz.ntmps112
      go_wp2_with (first
        | (go_at_call 136; refine (bytes_any _ _).mono ?_; rw [HN.out]; rintro e w' ⟨rfl, rfl⟩)
        | (go_at_call 77; refine (room_in B D S m A n _ hm hS npos ha HS.out).mono ?_; rintro e w' ⟨rfl, rfl⟩)
        | (go_at_call 138; refine (pick_any D A n n (fun i => m (A + i)) _ H8.out (Nat.le_refl _) HF.out HC.out).mono ?_; rintro e w' ⟨rfl, rfl⟩; generalize Mm.ld (fun i => m (A + i)) 0 n = z at *)
        | (go_at_call 137; refine (canon_any _ _ _ r1 r2).mono ?_; rintro e w' ⟨rfl, rfl⟩))
      go_ret2
      rw [HE.out, HV.out]
      exact ⟨rfl, rfl⟩

end Go.Proofs.YtdklaeppcjopoaaGreat

/- Small functions of risc, gantryref3 and gantrylaw3: contracts. -/
namespace Go.Proofs.YtdklaeppcjopoaaGreat
open Go.RowKit
set_option linter.unusedVariables false

set_option maxHeartbeats 400000 in
theorem isReg_any (k : Int) (w : World) :
    Calls Tryz.prog 196 #[.int .i64 k] w fun e w' => e = .returned (.bool (Rc.regB k)) ∧ w' = w := by
  go_enter Tryz.func196, Tryz.ntmps196
  go_wp2
  all_goals (go_ret; refine ⟨ret_bool ?_, rfl⟩; simp only [Rc.regB] at *; first | (rw [Bool.eq_iff_iff]; simp at *; omega))

set_option maxHeartbeats 400000 in
theorem join_any (k s : Int) (w : World) :
    Calls Tryz.prog 195 #[.int .i64 k, .int .i64 s] w fun e w' => e = .returned (.int .i64 (wrap64 (k + 256 * s))) ∧ w' = w := by
  go_enter Tryz.func195, Tryz.ntmps195
  go_wp2
  go_ret
  refine ⟨ret_i64 ?_, rfl⟩
  unfold wrap64; omega

end Go.Proofs.YtdklaeppcjopoaaGreat
