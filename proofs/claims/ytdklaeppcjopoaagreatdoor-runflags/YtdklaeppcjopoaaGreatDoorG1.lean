/- Contracts and plain facts that the walks share, text by text: Plain, Leaf, Canon, RSmall, MBase, RcPure, RcLeaf, RcA, RcDefs, MRead, MWrite, MRoom, MNew, MLoad, MStore, MGet, MHelp, RcF, RcT, RcG, RcR, RcQ, RcIns, RcRowsB, CcPure, CcOwn, RcD, Reckon, Bins, BinI, Bin. -/
import Derived.Test.YtdklaeppcjopoaaGreatDoorRows
import Derived.WalkKit
import Derived.WalkSpells
import Derived.WalkLawsBesides
import Derived.Deep.QuietTactic
import Derived.BigQuiet
import Derived.Deep.OwnRows
import Derived.Below
import Derived.Handy
import Derived.StillTailTactics
import Derived.Deep.RegionWith
import Derived.OwnWalk
import Derived.Laws.CopyOwn
import Derived.Laws.AppendOwnNone
import Derived.Deep.AppendLies
import Derived.Deep.Slices
import Derived.OpenShut
import Derived.Deep.Onto
/- What words are, as plain functions on integers (words are the integers from 0 to 2^64 - 1): no Go here. -/
namespace Go.Proofs.YtdklaeppcjopoaaGreatDoor
namespace Wd

def wid (k : Int) : Int := if k = 1 then 1 else if k = 2 ∨ k = 6 then 8 else if k = 3 ∨ k = 7 then 16 else if k = 4 ∨ k = 8 then 32 else if k = 5 ∨ k = 9 ∨ k = 10 ∨ k = 11 then 64 else 0

/-- the word whose lowest bits are x's, m = 2^width, h = m / 2 -/
def sx (m h x : Int) : Int := ((x + h) % m - h) % 18446744073709551616

def canon (k x : Int) : Int :=
  if k = 1 then x % 2 else if k = 2 then sx 256 128 x else if k = 3 then sx 65536 32768 x else if k = 4 then sx 4294967296 2147483648 x
  else if k = 5 then x % 18446744073709551616 else if k = 6 then x % 256 else if k = 7 then x % 65536 else if k = 8 then x % 4294967296
  else if k = 9 then x % 18446744073709551616 else if k = 10 then x % 18446744073709551616 else if k = 11 then x % 18446744073709551616 else 0

def isB (k x : Int) : Bool := decide (1 ≤ k) && decide (k ≤ 11) && (canon k x == x)
def sgnB (k : Int) : Bool := decide (2 ≤ k) && decide (k ≤ 5)
def intB (k : Int) : Bool := decide (2 ≤ k) && decide (k ≤ 9)
def numB (k : Int) : Bool := decide (2 ≤ k) && decide (k ≤ 10)
def cmpB (op : Int) : Bool := decide (11 ≤ op) && decide (op ≤ 16)
def hasUnB (op k : Int) : Bool := (op == 1 && numB k) || (op == 2 && k == 1) || (op == 3 && intB k)
def hasBinB (op k : Int) : Bool :=
  (intB k && decide (1 ≤ op) && decide (op ≤ 16)) || (k == 10 && ((decide (1 ≤ op) && decide (op ≤ 4)) || cmpB op)) ||
  (k == 1 && (op == 6 || op == 7 || op == 8 || op == 11 || op == 12)) || (k == 11 && (op == 11 || op == 12))

def tr (b : Bool) : Int := if b then 1 else 0

/-- the order of two numbers -/
def cmpI (op a b : Int) : Int :=
  if op = 11 then tr (a == b) else if op = 12 then tr (a != b) else if op = 13 then tr (decide (a < b)) else if op = 14 then tr (decide (a ≤ b))
  else if op = 15 then tr (decide (b < a)) else if op = 16 then tr (decide (b ≤ a)) else 0

/-- the signed number of 64 bits -/
def sg (x : Int) : Int := (x + 9223372036854775808) % 18446744073709551616 - 9223372036854775808

/-- unsigned kinds, bools and pointers -/
def bu (op k x y : Int) : Int :=
  if op = 1 then canon k (x + y) else if op = 2 then canon k (x - y) else if op = 3 then canon k (x * y) else if op = 4 then canon k (x / y) else if op = 5 then canon k (x % y)
  else if op = 6 then canon k (x.toNat &&& y.toNat : Nat) else if op = 7 then canon k (x.toNat ||| y.toNat : Nat) else if op = 8 then canon k (x.toNat ^^^ y.toNat : Nat)
  else if op = 9 then canon k (x * 2 ^ min y.toNat 64) else if op = 10 then canon k (x / 2 ^ min y.toNat 64) else cmpI op x y

def bs (op k x y : Int) : Int :=
  if op = 4 then canon k ((sg x).tdiv (sg y)) else if op = 5 then canon k ((sg x).tmod (sg y)) else if op = 10 then (sg x / 2 ^ min y.toNat 64) % 18446744073709551616
  else if 11 ≤ op then cmpI op (sg x) (sg y) else bu op k x y

/-- ints, bools, pointers: the word; 0 where there is none -/
def shB (op : Int) : Bool := op == 9 || op == 10

theorem kinds (k : Int) : k = 1 ∨ k = 2 ∨ k = 3 ∨ k = 4 ∨ k = 5 ∨ k = 6 ∨ k = 7 ∨ k = 8 ∨ k = 9 ∨ k = 10 ∨ k = 11 ∨ (k < 1 ∨ 11 < k) := by omega
theorem canon_out (k x : Int) (h : k < 1 ∨ 11 < k) : canon k x = 0 := by
  unfold canon
  rw [if_neg (by omega), if_neg (by omega), if_neg (by omega), if_neg (by omega), if_neg (by omega), if_neg (by omega), if_neg (by omega), if_neg (by omega), if_neg (by omega), if_neg (by omega), if_neg (by omega)]
theorem canon1 (x : Int) : canon 1 x = x % 2 := rfl
theorem canon2 (x : Int) : canon 2 x = ((x + 128) % 256 - 128) % 18446744073709551616 := rfl
theorem canon3 (x : Int) : canon 3 x = ((x + 32768) % 65536 - 32768) % 18446744073709551616 := rfl
theorem canon4 (x : Int) : canon 4 x = ((x + 2147483648) % 4294967296 - 2147483648) % 18446744073709551616 := rfl
theorem canon5 (x : Int) : canon 5 x = x % 18446744073709551616 := rfl
theorem canon6 (x : Int) : canon 6 x = x % 256 := rfl
theorem canon7 (x : Int) : canon 7 x = x % 65536 := rfl
theorem canon8 (x : Int) : canon 8 x = x % 4294967296 := rfl
theorem canon9 (x : Int) : canon 9 x = x % 18446744073709551616 := rfl
theorem canon10 (x : Int) : canon 10 x = x % 18446744073709551616 := rfl
theorem canon11 (x : Int) : canon 11 x = x % 18446744073709551616 := rfl

theorem canon_mod (k x : Int) : canon k (x % 18446744073709551616) = canon k x := by
  rcases kinds k with h | h | h | h | h | h | h | h | h | h | h | h <;> first | (subst h; simp only [canon1, canon2, canon3, canon4, canon5, canon6, canon7, canon8, canon9, canon10, canon11]; omega) | simp only [canon_out k _ h]
theorem canon_wrap (k x : Int) : canon k (IntKind.u64.wrap x) = canon k x := by rw [IntKind.wrap_u64, canon_mod]
theorem canon_rng (k x : Int) : 0 ≤ canon k x ∧ canon k x < 18446744073709551616 := by
  rcases kinds k with h | h | h | h | h | h | h | h | h | h | h | h <;> first | (subst h; simp only [canon1, canon2, canon3, canon4, canon5, canon6, canon7, canon8, canon9, canon10, canon11]; omega) | simp only [canon_out k _ h]; omega
theorem canon_canon (k x : Int) : canon k (canon k x) = canon k x := by
  rcases kinds k with h | h | h | h | h | h | h | h | h | h | h | h <;> first | (subst h; simp only [canon1, canon2, canon3, canon4, canon5, canon6, canon7, canon8, canon9, canon10, canon11]; omega) | simp only [canon_out k _ h]

theorem bu1 (k x y : Int) : bu 1 k x y = canon k (x + y) := rfl
theorem bu2 (k x y : Int) : bu 2 k x y = canon k (x - y) := rfl
theorem bu3 (k x y : Int) : bu 3 k x y = canon k (x * y) := rfl
theorem bu4 (k x y : Int) : bu 4 k x y = canon k (x / y) := rfl
theorem bu5 (k x y : Int) : bu 5 k x y = canon k (x % y) := rfl
theorem bu6 (k x y : Int) : bu 6 k x y = canon k (x.toNat &&& y.toNat : Nat) := rfl
theorem bu7 (k x y : Int) : bu 7 k x y = canon k (x.toNat ||| y.toNat : Nat) := rfl
theorem bu8 (k x y : Int) : bu 8 k x y = canon k (x.toNat ^^^ y.toNat : Nat) := rfl
theorem bu9 (k x y : Int) : bu 9 k x y = canon k (x * 2 ^ min y.toNat 64) := rfl
theorem bu10 (k x y : Int) : bu 10 k x y = canon k (x / 2 ^ min y.toNat 64) := rfl
theorem buc (op k x y : Int) (h : 11 ≤ op) : bu op k x y = cmpI op x y := by
  unfold bu; rw [if_neg (by omega), if_neg (by omega), if_neg (by omega), if_neg (by omega), if_neg (by omega), if_neg (by omega), if_neg (by omega), if_neg (by omega), if_neg (by omega), if_neg (by omega)]
theorem bs4 (k x y : Int) : bs 4 k x y = canon k ((sg x).tdiv (sg y)) := rfl
theorem bs5 (k x y : Int) : bs 5 k x y = canon k ((sg x).tmod (sg y)) := rfl
theorem bs10 (k x y : Int) : bs 10 k x y = (sg x / 2 ^ min y.toNat 64) % 18446744073709551616 := rfl
theorem bsc (op k x y : Int) (h : 11 ≤ op) : bs op k x y = cmpI op (sg x) (sg y) := by
  unfold bs; rw [if_neg (by omega), if_neg (by omega), if_neg (by omega), if_pos h]
theorem bsu (op k x y : Int) (h : op ≤ 10) (h4 : op ≠ 4) (h5 : op ≠ 5) (h10 : op ≠ 10) : bs op k x y = bu op k x y := by
  unfold bs; rw [if_neg h4, if_neg h5, if_neg h10, if_neg (by omega)]

/-- Bin of a kind that is not KindF64: the word and the error -/
def binI (op k x y : Int) : Int × Int :=
  if hasBinB op k = false then (0, 10) else if isB k x = false ∨ isB (if shB op then 9 else k) y = false then (0, 11)
  else if y = 0 ∧ (op = 4 ∨ op = 5) then (0, 12) else if sgnB k then (bs op k x y, 0) else (bu op k x y, 0)

theorem hasBin_ops {op k : Int} (h : hasBinB op k = true) : 1 ≤ op ∧ op ≤ 16 := by
  simp [hasBinB, intB, cmpB] at h; omega

end Wd
end Go.Proofs.YtdklaeppcjopoaaGreatDoor

/- The small functions of package word, each a plain function of its arguments: contracts. -/
namespace Go.Proofs.YtdklaeppcjopoaaGreatDoor
open Go.RowKit

theorem ret_i64 {a b : Int} (h : a = b) : Ending.returned (.int .i64 a) = .returned (.int .i64 b) := by rw [h]
theorem ret_u64 {a b : Int} (h : a = b) : Ending.returned (.int .u64 a) = .returned (.int .u64 b) := by rw [h]
theorem ret_bool {a b : Bool} (h : a = b) : Ending.returned (.bool a) = .returned (.bool b) := by rw [h]

set_option maxHeartbeats 400000 in
theorem width_any (k : Int) (w : World) :
    Calls Tryz.prog 74 #[.int .i64 k] w fun e w' => e = .returned (.int .i64 (Wd.wid k)) ∧ w' = w := by
  go_enter Tryz.func74, Tryz.ntmps74
  go_wp2
  all_goals (go_ret; refine ⟨ret_i64 ?_, rfl⟩; simp only [beq_iff_eq, beq_eq_false_iff_ne] at *; unfold Wd.wid; simp [*])

set_option maxHeartbeats 400000 in
theorem signed_any (k : Int) (w : World) :
    Calls Tryz.prog 91 #[.int .i64 k] w fun e w' => e = .returned (.bool (Wd.sgnB k)) ∧ w' = w := by
  go_enter Tryz.func91, Tryz.ntmps91
  go_wp2
  all_goals (go_ret; refine ⟨ret_bool ?_, rfl⟩; simp only [beq_iff_eq, beq_eq_false_iff_ne] at *; unfold Wd.sgnB; first | (rw [Bool.eq_iff_iff]; simp; omega))

set_option maxHeartbeats 400000 in
theorem int_any (k : Int) (w : World) :
    Calls Tryz.prog 112 #[.int .i64 k] w fun e w' => e = .returned (.bool (Wd.intB k)) ∧ w' = w := by
  go_enter Tryz.func112, Tryz.ntmps112
  go_wp2_with (go_at_call 91; refine (signed_any _ _).mono ?_; rintro e w' ⟨rfl, rfl⟩)
  all_goals (go_ret; refine ⟨ret_bool ?_, rfl⟩; simp only [beq_iff_eq, beq_eq_false_iff_ne] at *; simp only [Wd.intB, Wd.sgnB]; first | (rw [Bool.eq_iff_iff]; simp; omega))

set_option maxHeartbeats 400000 in
theorem number_any (k : Int) (w : World) :
    Calls Tryz.prog 97 #[.int .i64 k] w fun e w' => e = .returned (.bool (Wd.numB k)) ∧ w' = w := by
  go_enter Tryz.func97, Tryz.ntmps97
  go_wp2_with (go_at_call 112; refine (int_any _ _).mono ?_; rintro e w' ⟨rfl, rfl⟩)
  all_goals (go_ret; refine ⟨ret_bool ?_, rfl⟩; simp only [Wd.intB, Wd.numB] at *; first | (rw [Bool.eq_iff_iff]; simp at *; omega))

set_option maxHeartbeats 400000 in
theorem compares_any (k : Int) (w : World) :
    Calls Tryz.prog 111 #[.int .i64 k] w fun e w' => e = .returned (.bool (Wd.cmpB k)) ∧ w' = w := by
  go_enter Tryz.func111, Tryz.ntmps111
  go_wp2
  all_goals (go_ret; refine ⟨ret_bool ?_, rfl⟩; simp only [Wd.cmpB] at *; first | (rw [Bool.eq_iff_iff]; simp at *; omega))

set_option maxHeartbeats 400000 in
theorem hasUn_any (op k : Int) (w : World) :
    Calls Tryz.prog 94 #[.int .i64 op, .int .i64 k] w fun e w' => e = .returned (.bool (Wd.hasUnB op k)) ∧ w' = w := by
  go_enter Tryz.func94, Tryz.ntmps94
  go_wp2_with (go_at_call 112; refine (int_any _ _).mono ?_; rintro e w' ⟨rfl, rfl⟩)
  all_goals (go_ret; refine ⟨ret_bool ?_, rfl⟩; simp only [Wd.hasUnB, Wd.intB, Wd.numB] at *; first | (rw [Bool.eq_iff_iff]; simp at *; omega))

set_option maxHeartbeats 400000 in
theorem hasBin_any (op k : Int) (w : World) :
    Calls Tryz.prog 88 #[.int .i64 op, .int .i64 k] w fun e w' => e = .returned (.bool (Wd.hasBinB op k)) ∧ w' = w := by
  go_enter Tryz.func88, Tryz.ntmps88
  go_wp2_with (first | (go_at_call 112; refine (int_any _ _).mono ?_; rintro e w' ⟨rfl, rfl⟩) | (go_at_call 111; refine (compares_any _ _).mono ?_; rintro e w' ⟨rfl, rfl⟩))
  all_goals (go_ret; refine ⟨ret_bool ?_, rfl⟩; simp only [Wd.hasBinB, Wd.intB, Wd.cmpB] at *; first | (rw [Bool.eq_iff_iff]; simp at *; omega))

end Go.Proofs.YtdklaeppcjopoaaGreatDoor

/- Canon, Is, Bytes and the comparisons of package word: contracts. -/
namespace Go.Proofs.YtdklaeppcjopoaaGreatDoor
open Go.RowKit

set_option maxHeartbeats 400000 in
theorem canon_any (k x : Int) (w : World) (hx : 0 ≤ x) (hx2 : x < 18446744073709551616) :
    Calls Tryz.prog 95 #[.int .i64 k, .int .u64 x] w fun e w' => e = .returned (.int .u64 (Wd.canon k x)) ∧ w' = w := by
  rcases Wd.kinds k with h | h | h | h | h | h | h | h | h | h | h | (h | h)
  all_goals
    first | subst h | skip
    go_enter Tryz.func95, Tryz.ntmps95
    go_wp2
    go_ret
    refine ⟨ret_u64 ?_, rfl⟩
    first
      | (simp only [Wd.canon1, Wd.canon2, Wd.canon3, Wd.canon4, Wd.canon5, Wd.canon6, Wd.canon7, Wd.canon8, Wd.canon9, Wd.canon10, Wd.canon11, IntKind.wrap_u64, wrap64]; omega)
      | exact (Wd.canon_out k x (by omega)).symm

set_option maxHeartbeats 400000 in
theorem is_any (k x : Int) (w : World) (hx : 0 ≤ x) (hx2 : x < 18446744073709551616) :
    Calls Tryz.prog 89 #[.int .i64 k, .int .u64 x] w fun e w' => e = .returned (.bool (Wd.isB k x)) ∧ w' = w := by
  by_cases hk : 1 ≤ k ∧ k ≤ 11
  · have hw : 0 < Wd.wid k := by unfold Wd.wid; repeat' split
                                 all_goals omega
    have hi : Wd.isB k x = (Wd.canon k x == x) := by simp [Wd.isB, hk]
    have Hi : Hid (_ = _) := hi
    clear hi hk
    go_enter Tryz.func89, Tryz.ntmps89
    go_wp2_with (first | (go_at_call 74; refine (width_any _ _).mono ?_; rintro e w' ⟨rfl, rfl⟩) | (go_at_call 95; refine (canon_any _ _ _ (by assumption) (by assumption)).mono ?_; rintro e w' ⟨rfl, rfl⟩))
    go_ret
    exact ⟨ret_bool Hi.out.symm, rfl⟩
  · have hw : ¬ 0 < Wd.wid k := by unfold Wd.wid; repeat' split
                                   all_goals omega
    have hi : Wd.isB k x = false := by unfold Wd.isB; rw [Bool.and_eq_false_iff]; left; simp; omega
    have Hi : Hid (_ = _) := hi
    clear hi hk
    go_enter Tryz.func89, Tryz.ntmps89
    go_wp2_with (first | (go_at_call 74; refine (width_any _ _).mono ?_; rintro e w' ⟨rfl, rfl⟩) | (go_at_call 95; refine (canon_any _ _ _ (by assumption) (by assumption)).mono ?_; rintro e w' ⟨rfl, rfl⟩))
    go_ret
    exact ⟨ret_bool Hi.out.symm, rfl⟩

end Go.Proofs.YtdklaeppcjopoaaGreatDoor

/- The small functions of the page's own words (package gantryref1), and word.Bytes: contracts, by the same plain functions as package word's. -/
namespace Go.Proofs.YtdklaeppcjopoaaGreatDoor
open Go.RowKit
set_option linter.unusedVariables false

namespace Wd
def by' (k : Int) : Int := (wid k + 7) / 8
end Wd

namespace Wd
def wordB (k : Int) : Bool := decide (1 ≤ k) && decide (k ≤ 11)
end Wd

set_option maxHeartbeats 400000 in
theorem bytes_any (k : Int) (w : World) :
    Calls Tryz.prog 109 #[.int .i64 k] w fun e w' => e = .returned (.int .i64 (Wd.by' k)) ∧ w' = w := by
  have h1 : 0 ≤ Wd.wid k := by unfold Wd.wid; repeat' split
                               all_goals omega
  have h2 : Wd.wid k ≤ 64 := by unfold Wd.wid; repeat' split
                                all_goals omega
  go_enter Tryz.func109, Tryz.ntmps109
  go_wp2_with (go_at_call 74; refine (width_any _ _).mono ?_; rintro e w' ⟨rfl, rfl⟩)
  go_ret
  exact ⟨rfl, rfl⟩

set_option maxHeartbeats 400000 in
theorem rsigned_any (k : Int) (w : World) :
    Calls Tryz.prog 25 #[.int .i64 k] w fun e w' => e = .returned (.bool (Wd.sgnB k)) ∧ w' = w := by
  go_enter Tryz.func25, Tryz.ntmps25
  go_wp2
  all_goals (go_ret; refine ⟨ret_bool ?_, rfl⟩; simp only [Wd.sgnB] at *; first | (rw [Bool.eq_iff_iff]; simp at *; omega))

set_option maxHeartbeats 400000 in
theorem rword_any (k : Int) (w : World) :
    Calls Tryz.prog 15 #[.int .i64 k] w fun e w' => e = .returned (.bool (Wd.wordB k)) ∧ w' = w := by
  go_enter Tryz.func15, Tryz.ntmps15
  go_wp2
  all_goals (go_ret; refine ⟨ret_bool ?_, rfl⟩; simp only [Wd.wordB] at *; first | (rw [Bool.eq_iff_iff]; simp at *; omega))

set_option maxHeartbeats 400000 in
theorem rcanon_any (k x : Int) (w : World) (hx : 0 ≤ x) (hx2 : x < 18446744073709551616) :
    Calls Tryz.prog 9 #[.int .i64 k, .int .u64 x] w fun e w' => e = .returned (.int .u64 (Wd.canon k x)) ∧ w' = w := by
  rcases Wd.kinds k with h | h | h | h | h | h | h | h | h | h | h | h
  all_goals first
    | (subst h
       go_enter Tryz.func9, Tryz.ntmps9
       go_wp2
       go_ret
       refine ⟨ret_u64 ?_, rfl⟩
       simp only [Wd.canon1, Wd.canon2, Wd.canon3, Wd.canon4, Wd.canon5, Wd.canon6, Wd.canon7, Wd.canon8, Wd.canon9, Wd.canon10, Wd.canon11, IntKind.wrap_u64, wrap64]; omega)
    | (have hw : Wd.wordB k = false := by unfold Wd.wordB; simp; omega
       have Hz : Hid (Wd.canon k x = 0) := Wd.canon_out k x h
       clear h
       go_enter Tryz.func9, Tryz.ntmps9
       go_wp2_with (go_at_call 15; refine (rword_any _ _).mono ?_; rintro e w' ⟨rfl, rfl⟩)
       go_ret
       exact ⟨ret_u64 Hz.out.symm, rfl⟩)

set_option maxHeartbeats 400000 in
theorem ris_any (k x : Int) (w : World) (hx : 0 ≤ x) (hx2 : x < 18446744073709551616) :
    Calls Tryz.prog 17 #[.int .i64 k, .int .u64 x] w fun e w' => e = .returned (.bool (Wd.isB k x)) ∧ w' = w := by
  cases hk : Wd.wordB k
  · have Hi : Hid (Wd.isB k x = false) := by show _ = _; unfold Wd.isB; unfold Wd.wordB at hk; rw [hk]; rfl
    go_enter Tryz.func17, Tryz.ntmps17
    go_wp2_with (first | (go_at_call 15; refine (rword_any _ _).mono ?_; rintro e w' ⟨rfl, rfl⟩) | (go_at_call 9; refine (rcanon_any _ _ _ (by assumption) (by assumption)).mono ?_; rintro e w' ⟨rfl, rfl⟩))
    go_ret
    exact ⟨ret_bool Hi.out.symm, rfl⟩
  · have Hi : Hid (Wd.isB k x = (Wd.canon k x == x)) := by show _ = _; unfold Wd.isB; unfold Wd.wordB at hk; rw [hk]; rfl
    go_enter Tryz.func17, Tryz.ntmps17
    go_wp2_with (first | (go_at_call 15; refine (rword_any _ _).mono ?_; rintro e w' ⟨rfl, rfl⟩) | (go_at_call 9; refine (rcanon_any _ _ _ (by assumption) (by assumption)).mono ?_; rintro e w' ⟨rfl, rfl⟩))
    go_ret
    exact ⟨ret_bool Hi.out.symm, rfl⟩

set_option maxHeartbeats 400000 in
theorem rint_any (k : Int) (w : World) :
    Calls Tryz.prog 16 #[.int .i64 k] w fun e w' => e = .returned (.bool (Wd.intB k)) ∧ w' = w := by
  go_enter Tryz.func16, Tryz.ntmps16
  go_wp2
  all_goals (go_ret; refine ⟨ret_bool ?_, rfl⟩; simp only [Wd.intB] at *; first | (rw [Bool.eq_iff_iff]; simp at *; omega))

set_option maxHeartbeats 400000 in
theorem rshift_any (k : Int) (w : World) :
    Calls Tryz.prog 7 #[.int .i64 k] w fun e w' => e = .returned (.bool (Wd.shB k)) ∧ w' = w := by
  go_enter Tryz.func7, Tryz.ntmps7
  go_wp2
  all_goals (go_ret; refine ⟨ret_bool ?_, rfl⟩; unfold Wd.shB; first | rfl | (simp_all; done) | (rw [Bool.eq_iff_iff]; simp at *; omega))

set_option maxHeartbeats 1000000 in
theorem rhasBin_any (op k : Int) (w : World) :
    Calls Tryz.prog 6 #[.int .i64 op, .int .i64 k] w fun e w' => e = .returned (.bool (Wd.hasBinB op k)) ∧ w' = w := by
  go_enter Tryz.func6, Tryz.ntmps6
  go_wp2_with (go_at_call 16; refine (rint_any _ _).mono ?_; rintro e w' ⟨rfl, rfl⟩)
  all_goals (go_ret; refine ⟨ret_bool ?_, rfl⟩; simp only [Wd.hasBinB, Wd.intB, Wd.cmpB] at *; first | (rw [Bool.eq_iff_iff]; simp at *; omega))

set_option maxHeartbeats 400000 in
theorem rtruth_any (b : Bool) (w : World) :
    Calls Tryz.prog 22 #[.bool b] w fun e w' => e = .returned (.int .u64 (Wd.tr b)) ∧ w' = w := by
  cases b
  all_goals
    go_enter Tryz.func22, Tryz.ntmps22
    go_wp2
    go_ret
    exact ⟨rfl, rfl⟩

end Go.Proofs.YtdklaeppcjopoaaGreatDoor

/- Bytes and memories: what a row of bytes holds, as a function of the index; what a number's bytes are. No Go here. -/
namespace Go.Proofs.YtdklaeppcjopoaaGreatDoor
open Go.RowKit
set_option linter.unusedVariables false

namespace Mm
/-- the number that n bytes from a on are, the lowest one first -/
def ld (m : Nat → Int) (a : Nat) : Nat → Int
  | 0 => 0
  | n + 1 => ld m a n + m (a + n) * 256 ^ n
/-- a number's byte -/
def by8 (x : Int) (i : Nat) : Int := x / 256 ^ i % 256
/-- n bytes g laid from a on -/
def pt (m : Nat → Int) (a n : Nat) (g : Nat → Int) : Nat → Int := fun i => if a ≤ i ∧ i < a + n then g (i - a) else m i
/-- do all numbers fit a byte? -/
def Fit (m : Nat → Int) : Prop := ∀ i, 0 ≤ m i ∧ m i < 256

theorem mod_mul (x a b : Int) (ha : 0 < a) (hb : 0 < b) : x % (a * b) = x % a + a * (x / a % b) := by
  have h1 := Int.mul_ediv_add_emod x a
  have h2 := Int.mul_ediv_add_emod (x / a) b
  have h3 := Int.emod_nonneg x (show a ≠ 0 by omega)
  have h4 := Int.emod_lt_of_pos x ha
  have h5 := Int.emod_nonneg (x / a) (show b ≠ 0 by omega)
  have h6 := Int.emod_lt_of_pos (x / a) hb
  have e : x = (x % a + a * (x / a % b)) + a * b * (x / a / b) := by
    have : a * (x / a) = a * (b * (x / a / b)) + a * (x / a % b) := by rw [← Int.mul_add, h2]
    rw [Int.mul_assoc]; omega
  have k1 : 0 ≤ a * (x / a % b) := Int.mul_nonneg (by omega) h5
  have k2 : a * (x / a % b) ≤ a * (b - 1) := Int.mul_le_mul_of_nonneg_left (by omega) (by omega)
  rw [Int.mul_sub, Int.mul_one] at k2
  have k3 : (x % a + a * (x / a % b) + a * b * (x / a / b)) % (a * b) = x % a + a * (x / a % b) := by
    rw [Int.add_mul_emod_self_left]
    exact Int.emod_eq_of_lt (by omega) (by omega)
  rw [← e] at k3
  exact k3
theorem pow_pos (n : Nat) : (0 : Int) < 256 ^ n := Int.pow_pos (by omega)
theorem ld_succ (m : Nat → Int) (a n : Nat) : ld m a (n + 1) = ld m a n + m (a + n) * 256 ^ n := rfl
theorem ld_rng {m : Nat → Int} (hm : Fit m) (a n : Nat) : 0 ≤ ld m a n ∧ ld m a n < 256 ^ n := by
  induction n with
  | zero => simp [ld]
  | succ n ih =>
    have hp := pow_pos n
    have h := hm (a + n)
    rw [ld_succ, Int.pow_succ]
    have h1 : 0 ≤ m (a + n) * 256 ^ n := Int.mul_nonneg h.1 (by omega)
    have h2 : m (a + n) * 256 ^ n ≤ 255 * 256 ^ n := Int.mul_le_mul_of_nonneg_right (by omega) (by omega)
    omega
theorem ld_congr {m m' : Nat → Int} {a a' n : Nat} (h : ∀ i, i < n → m (a + i) = m' (a' + i)) : ld m a n = ld m' a' n := by
  induction n with
  | zero => rfl
  | succ n ih => rw [ld_succ, ld_succ, ih (fun i hi => h i (by omega)), h n (by omega)]
theorem ld_shift (m : Nat → Int) (a n : Nat) : ld m a n = ld (fun i => m (a + i)) 0 n := ld_congr fun i _ => by simp
theorem by8_rng (x : Int) (i : Nat) : 0 ≤ by8 x i ∧ by8 x i < 256 := by unfold by8; omega
theorem by8_fit (x : Int) : Fit (by8 x) := by8_rng x
theorem pt_fit {m g : Nat → Int} (hm : Fit m) (hg : Fit g) (a n : Nat) : Fit (pt m a n g) := by
  intro i; unfold pt; split
  · exact hg _
  · exact hm _
theorem ld_by8 (x : Int) (n : Nat) : ld (by8 x) 0 n = x % 256 ^ n := by
  induction n with
  | zero => simp [ld, Int.emod_one]
  | succ n ih =>
    rw [ld_succ, ih, Nat.zero_add, Int.pow_succ, mod_mul _ _ _ (pow_pos n) (by omega)]
    unfold by8
    rw [Int.mul_comm]
theorem pt_out {m g : Nat → Int} {a n i : Nat} (h : i < a ∨ a + n ≤ i) : pt m a n g i = m i := by
  unfold pt; rw [if_neg (by omega)]
theorem pt_zero (m g : Nat → Int) (a : Nat) : pt m a 0 g = m := by
  funext i; unfold pt; rw [if_neg (by omega)]
theorem pt_succ (m g : Nat → Int) (a n : Nat) : (fun j => if j = a + n then g n else pt m a n g j) = pt m a (n + 1) g := by
  funext i
  unfold pt
  by_cases h : i = a + n
  · subst h; rw [if_pos rfl, if_pos (by omega)]; congr 1; omega
  · rw [if_neg h]
    by_cases h2 : a ≤ i ∧ i < a + n
    · rw [if_pos h2, if_pos (by omega)]
    · rw [if_neg h2, if_neg (by omega)]
theorem by8_mod (x : Int) (i n : Nat) (h : i < n) : by8 (x % 256 ^ n) i = by8 x i := by
  unfold by8
  obtain ⟨d, rfl⟩ : ∃ d, n = i + 1 + d := ⟨n - (i + 1), by omega⟩
  rw [Int.pow_add, Int.pow_succ]
  have hp := pow_pos i
  have hd := pow_pos d
  rw [show (256 : Int) ^ i * 256 * 256 ^ d = 256 ^ i * (256 * 256 ^ d) by rw [Int.mul_assoc]]
  rw [mod_mul _ _ _ hp (by omega), Int.add_mul_ediv_left _ _ (by omega), Int.ediv_eq_zero_of_lt (Int.emod_nonneg _ (by omega)) (Int.emod_lt_of_pos _ hp), Int.zero_add,
    Int.emod_emod_of_dvd _ ⟨256 ^ d, rfl⟩]
theorem pt_congr {m g g' : Nat → Int} {a n : Nat} (h : ∀ i, i < n → g i = g' i) : pt m a n g = pt m a n g' := by
  funext i; unfold pt; split
  · exact h _ (by omega)
  · rfl
end Mm

namespace Mm
theorem toNat_small {n : Nat} {a : Nat} (h : a < 2 ^ n) : (BitVec.ofInt n (a : Int)).toNat = a := by
  rw [BitVec.toNat_ofInt]
  have e : (a : Int) % ((2 ^ n : Nat) : Int) = ((a % 2 ^ n : Nat) : Int) := by rw [Int.natCast_emod]
  rw [e, Int.toNat_natCast, Nat.mod_eq_of_lt h]
theorem wrap_small {k : IntKind} (hk : k.signed = false) {a : Nat} (h : a < 2 ^ k.bits) : k.wrap (a : Int) = a := by
  unfold IntKind.wrap
  have e : (a : Int) % 2 ^ k.bits = (a : Int) := by
    refine Int.emod_eq_of_lt (Int.natCast_nonneg _) ?_
    have : ((a : Nat) : Int) < ((2 ^ k.bits : Nat) : Int) := by exact_mod_cast h
    simpa using this
  simp [hk, e]
theorem bits_or {k : IntKind} (hk : k.signed = false) {a c : Nat} (ha : a < 2 ^ k.bits) (hc : c < 2 ^ k.bits) : bits .or k (a : Int) (c : Int) = ((a ||| c : Nat) : Int) := by
  show k.wrap ((BitVec.ofInt k.bits (a : Int) ||| BitVec.ofInt k.bits (c : Int)).toNat : Int) = _
  rw [BitVec.toNat_or, toNat_small ha, toNat_small hc]
  exact wrap_small hk (Nat.or_lt_two_pow ha hc)
theorem bits_and {k : IntKind} (hk : k.signed = false) {a c : Nat} (ha : a < 2 ^ k.bits) (hc : c < 2 ^ k.bits) : bits .and k (a : Int) (c : Int) = ((a &&& c : Nat) : Int) := by
  show k.wrap ((BitVec.ofInt k.bits (a : Int) &&& BitVec.ofInt k.bits (c : Int)).toNat : Int) = _
  rw [BitVec.toNat_and, toNat_small ha, toNat_small hc]
  exact wrap_small hk (Nat.lt_of_le_of_lt Nat.and_le_left ha)
/-- bits that lie apart: the sum -/
theorem or_high {k : IntKind} (hk : k.signed = false) {x y : Int} {j : Nat} (x1 : 0 ≤ x) (x2 : x < 2 ^ j) (y1 : 0 ≤ y) (h : x + y * 2 ^ j < 2 ^ k.bits) : bits .or k x (y * 2 ^ j) = x + y * 2 ^ j := by
  obtain ⟨a, rfl⟩ := Int.eq_ofNat_of_zero_le x1
  obtain ⟨c, rfl⟩ := Int.eq_ofNat_of_zero_le y1
  have x2' : a < 2 ^ j := by exact_mod_cast x2
  have h' : a + c * 2 ^ j < 2 ^ k.bits := by exact_mod_cast h
  have e : ((c : Int) * 2 ^ j) = ((c * 2 ^ j : Nat) : Int) := by simp
  rw [e, bits_or hk (by omega) (by omega), Nat.or_comm, ← Nat.shiftLeft_eq, ← Nat.shiftLeft_add_eq_or_of_lt x2']
  rw [Nat.shiftLeft_eq]; omega
theorem pow8 (k : Nat) : (2 : Int) ^ (8 * k) = 256 ^ k := by rw [Int.pow_mul]; rfl
/-- one byte more, as the loop lays it -/
theorem read_step {kd : IntKind} (hk : kd.signed = false) {x y : Int} {k : Nat} (x1 : 0 ≤ x) (x2 : x < 256 ^ k) (y1 : 0 ≤ y) (y2 : y < 256) (h : 256 ^ (k + 1) ≤ (2 : Int) ^ kd.bits) :
    bits .or kd x (kd.wrap (y * 2 ^ (8 * k))) = x + y * 256 ^ k := by
  have hp := pow_pos k
  rw [Int.pow_succ] at h
  have h2 : y * 256 ^ k ≤ 255 * 256 ^ k := Int.mul_le_mul_of_nonneg_right (by omega) (by omega)
  have h1 : 0 ≤ y * 256 ^ k := Int.mul_nonneg y1 (by omega)
  have e : kd.wrap (y * 2 ^ (8 * k)) = y * 2 ^ (8 * k) := by
    rw [pow8]
    obtain ⟨c, hc⟩ := Int.eq_ofNat_of_zero_le h1
    rw [hc]; refine wrap_small hk ?_
    have : ((c : Nat) : Int) < 2 ^ kd.bits := by omega
    exact_mod_cast this
  rw [e, or_high hk x1 (by rw [pow8]; exact x2) y1 (by rw [pow8]; omega), pow8]
end Mm

/-- the n cells from the address on hold the bytes g -/
def Bs (w : World) (ao : Option Addr) (n : Nat) (g : Nat → Int) : Prop :=
  n = 0 ∨ ∃ b off, ao = some ⟨b, off, none⟩ ∧ ∀ i, i < n → w.cell? ⟨b, off + i, none⟩ = some (.int .u8 (g i))

/-- a memory: the struct's block B holds a slice of all S bytes that lie in block D -/
structure IsMem (t : TypeId) (w : World) (B D S : Nat) (m : Nat → Int) : Prop where
  head : w.rowIs B t 1 (fun _ => .slice (some ⟨D, 0, none⟩) S S)
  row : w.rowIs D 5 S (fun i => .int .u8 (m i))
  fit : Mm.Fit m

theorem IsMem.kept {t : TypeId} {w w' : World} {B D S : Nat} {m : Nat → Int} {row : Option Nat} (h : IsMem t w B D S m) (hg : w.grownBy w' row) (h1 : some B ≠ row) (h2 : some D ≠ row) : IsMem t w' B D S m :=
  ⟨h.head.of_block (hg.block B h.head.lt h1), h.row.of_block (hg.block D h.row.lt h2), h.fit⟩

theorem IsMem.below {t : TypeId} {w w' : World} {B D S N : Nat} {m : Nat → Int} (h : IsMem t w B D S m) (hg : Below N w w') (h1 : B < N) (h2 : D < N) : IsMem t w' B D S m :=
  ⟨h.head.of_block (hg.block B h1), h.row.of_block (hg.block D h2), h.fit⟩

theorem grown_trans {w w' w'' : World} {row : Option Nat} (h : w.grownBy w' row) (k : w'.grownBy w'' row) : w.grownBy w'' row :=
  ⟨k.os.trans h.os, k.tape.trans h.tape, k.output.trans h.output, Nat.le_trans h.size k.size, fun i hi hr => (k.block i (Nat.lt_of_lt_of_le hi h.size) hr).trans (h.block i hi hr)⟩
theorem grown_setCell (w : World) (b i : Nat) (v : Value) : w.grownBy (w.setCell ⟨b, i, none⟩ v) (some b) :=
  ⟨rfl, rfl, rfl, by simp [World.setCell], fun k hk hr => Below.heap_setCell _ _ _ _ (fun e => hr (by rw [e]))⟩
theorem grown_drewN {w w' : World} {row : Option Nat} (h : w.grownBy w' row) (n : Nat) : w.grownBy (w'.drewN n) row := by
  refine grown_trans h ?_
  induction n with
  | zero => exact ⟨rfl, rfl, rfl, Nat.le_refl _, fun _ _ _ => rfl⟩
  | succ n ih => exact grown_trans ih ⟨rfl, rfl, rfl, Nat.le_refl _, fun _ _ _ => rfl⟩
end Go.Proofs.YtdklaeppcjopoaaGreatDoor

/- Instructions of R64 by the page's rows, as plain functions on integers: which there are, their bytes, and back. No Go here. -/
namespace Go.Proofs.YtdklaeppcjopoaaGreatDoor
set_option linter.unusedVariables false

/-- an instruction's nine numbers -/
structure InV where
  op : Int
  a : Int
  b : Int
  c : Int
  k : Int
  sub : Int
  scale : Int
  imm : Int
  label : Int

namespace Rc
/-- which fields a code uses: the page's letters -/
def fld (op : Int) : ByteArray :=
  if op = 1 ∨ op = 2 ∨ op = 20 ∨ op = 21 then ⟨#[65, 73]⟩ else if op = 3 ∨ op = 26 then ⟨#[65, 66]⟩ else if op = 4 then ⟨#[65, 66, 67, 75, 83]⟩
  else if op = 7 ∨ op = 8 then ⟨#[65, 66, 75, 83]⟩ else if op = 9 then ⟨#[65, 66, 73]⟩ else if op = 11 ∨ op = 13 then ⟨#[65, 66, 75, 73]⟩
  else if op = 15 then ⟨#[65, 66, 67, 73]⟩ else if op = 19 ∨ op = 23 ∨ op = 25 ∨ op = 29 then ⟨#[73]⟩ else if op = 27 ∨ op = 28 then ⟨#[65]⟩ else if op = 24 then ⟨#[45]⟩ else ⟨#[]⟩
def hasS (s : ByteArray) (c : Int) : Bool := s.data.toList.any (fun b => (b.toNat : Int) == c)
def regB (n : Int) : Bool := decide (0 ≤ n) && decide (n < 16)
def smallB (n : Int) : Bool := decide (-2147483648 ≤ n) && decide (n < 2147483648)
def kindB (v : InV) : Bool :=
  if v.op = 4 then Wd.hasBinB v.sub v.k else if v.op = 7 then Wd.hasUnB v.sub v.k else if v.op = 8 then Wd.numB v.sub && Wd.numB v.k else if v.op = 11 ∨ v.op = 13 then Wd.wordB v.k
  else if v.op = 15 then decide (0 ≤ v.imm) && decide (v.imm < 16) else if v.op = 25 then decide (0 ≤ v.imm) else if v.op = 29 then decide (0 < v.imm) else true
/-- is it an instruction of R64? -/
def mayB (v : InV) : Bool :=
  !(fld v.op).data.isEmpty && v.scale == 0 && v.label == 0 && regB v.a && regB v.b && regB v.c && smallB v.imm &&
  (hasS (fld v.op) 65 || v.a == 0) && (hasS (fld v.op) 66 || v.b == 0) && (hasS (fld v.op) 67 || v.c == 0) && (hasS (fld v.op) 75 || v.k == 0) && (hasS (fld v.op) 83 || v.sub == 0) && (hasS (fld v.op) 73 || v.imm == 0) && kindB v
def cc (v : InV) : Int := if v.op = 11 ∨ v.op = 13 then v.k else v.c
def nn (v : InV) : Int := if v.op = 4 ∨ v.op = 7 ∨ v.op = 8 then v.k + 256 * v.sub else v.imm
/-- its bytes -/
def enc (v : InV) (i : Nat) : Int :=
  if i = 0 then v.op % 256 else if i = 1 then v.a % 256 else if i = 2 then v.b % 256 else if i = 3 then cc v % 256 else Mm.by8 (nn v % 4294967296) (i - 4)
/-- a number of 32 bits, signed -/
def s32 (u : Int) : Int := (u + 2147483648) % 4294967296 - 2147483648
/-- what eight bytes say, if that is an instruction -/
def rd (g : Nat → Int) : InV :=
  let n := s32 (Mm.ld g 4 4)
  if g 0 = 4 ∨ g 0 = 7 ∨ g 0 = 8 then ⟨g 0, g 1, g 2, g 3, n % 256, n / 256, 0, 0, 0⟩
  else if g 0 = 11 ∨ g 0 = 13 then ⟨g 0, g 1, g 2, 0, g 3, 0, 0, n, 0⟩ else ⟨g 0, g 1, g 2, g 3, 0, 0, 0, n, 0⟩
def wideB (g : Nat → Int) : Bool := (g 0 == 4 || g 0 == 7 || g 0 == 8) && (decide (s32 (Mm.ld g 4 4) < 0) || decide (65536 ≤ s32 (Mm.ld g 4 4)))
def okB (g : Nat → Int) : Bool := !wideB g && mayB (rd g)

theorem codes (v : InV) (h : mayB v = true) : v.op = 1 ∨ v.op = 2 ∨ v.op = 3 ∨ v.op = 4 ∨ v.op = 7 ∨ v.op = 8 ∨ v.op = 9 ∨ v.op = 11 ∨ v.op = 13 ∨ v.op = 15 ∨ v.op = 19 ∨ v.op = 20 ∨ v.op = 21 ∨ v.op = 23 ∨ v.op = 24 ∨ v.op = 25 ∨ v.op = 26 ∨ v.op = 27 ∨ v.op = 28 ∨ v.op = 29 := by
  by_cases hh : (v.op = 1 ∨ v.op = 2 ∨ v.op = 3 ∨ v.op = 4 ∨ v.op = 7 ∨ v.op = 8 ∨ v.op = 9 ∨ v.op = 11 ∨ v.op = 13 ∨ v.op = 15 ∨ v.op = 19 ∨ v.op = 20 ∨ v.op = 21 ∨ v.op = 23 ∨ v.op = 24 ∨ v.op = 25 ∨ v.op = 26 ∨ v.op = 27 ∨ v.op = 28 ∨ v.op = 29)
  · exact hh
  · exfalso
    have e : fld v.op = ⟨#[]⟩ := by
      unfold fld
      rw [if_neg (by omega), if_neg (by omega), if_neg (by omega), if_neg (by omega), if_neg (by omega), if_neg (by omega), if_neg (by omega), if_neg (by omega), if_neg (by omega), if_neg (by omega)]
    unfold mayB at h
    rw [e] at h
    simp at h

theorem ld_enc (v : InV) : Mm.ld (enc v) 4 4 = nn v % 4294967296 := by
  have h : Mm.ld (enc v) 4 4 = Mm.ld (Mm.by8 (nn v % 4294967296)) 0 4 := Mm.ld_congr fun i hi => by
    unfold enc
    rw [if_neg (by omega), if_neg (by omega), if_neg (by omega), if_neg (by omega)]
    congr 1; omega
  rw [h, Mm.ld_by8]
  omega
theorem s32_mod (n : Int) (h1 : -2147483648 ≤ n) (h2 : n < 2147483648) : s32 (n % 4294967296) = n := by unfold s32; omega

/-- the ranges of an instruction's numbers -/
structure Rng (v : InV) : Prop where
  sc : v.scale = 0
  lb : v.label = 0
  a1 : 0 ≤ v.a
  a2 : v.a < 16
  b1 : 0 ≤ v.b
  b2 : v.b < 16
  c1 : 0 ≤ v.c
  c2 : v.c < 16
  i1 : -2147483648 ≤ v.imm
  i2 : v.imm < 2147483648
  u0 : hasS (fld v.op) 65 = true ∨ v.a = 0
  u1 : hasS (fld v.op) 66 = true ∨ v.b = 0
  u2 : hasS (fld v.op) 67 = true ∨ v.c = 0
  u3 : hasS (fld v.op) 75 = true ∨ v.k = 0
  u4 : hasS (fld v.op) 83 = true ∨ v.sub = 0
  u5 : hasS (fld v.op) 73 = true ∨ v.imm = 0
  kd : kindB v = true
theorem rng {v : InV} (h : mayB v = true) : Rng v := by
  unfold mayB regB smallB at h
  simp only [Bool.and_eq_true, Bool.or_eq_true, beq_iff_eq, decide_eq_true_eq] at h
  obtain ⟨⟨⟨⟨⟨⟨⟨⟨⟨⟨⟨⟨⟨h0, h1⟩, h2⟩, h3⟩, h4⟩, h5⟩, h6⟩, h7⟩, h8⟩, h9⟩, h10⟩, h11⟩, h12⟩, h13⟩ := h
  exact ⟨h1, h2, h3.1, h3.2, h4.1, h4.2, h5.1, h5.2, h6.1, h6.2, h7, h8, h9, h10, h11, h12, h13⟩

theorem bin_rng {op k : Int} (h : Wd.hasBinB op k = true) : 1 ≤ op ∧ op ≤ 16 ∧ 1 ≤ k ∧ k ≤ 11 := by
  unfold Wd.hasBinB Wd.intB Wd.cmpB at h; simp at h; omega
theorem un_rng {op k : Int} (h : Wd.hasUnB op k = true) : 1 ≤ op ∧ op ≤ 3 ∧ 1 ≤ k ∧ k ≤ 11 := by
  unfold Wd.hasUnB Wd.numB Wd.intB at h; simp at h; omega

theorem conv_rng {f t : Int} (h : (Wd.numB f && Wd.numB t) = true) : 2 ≤ f ∧ f ≤ 10 ∧ 2 ≤ t ∧ t ≤ 10 := by
  unfold Wd.numB at h; simp at h; omega
theorem word_rng {k : Int} (h : Wd.wordB k = true) : 1 ≤ k ∧ k ≤ 11 := by unfold Wd.wordB at h; simpa using h

/-- its bytes say it -/
theorem back (v : InV) (h : mayB v = true) : rd (enc v) = v ∧ wideB (enc v) = false := by
  have r := rng h
  have hc := codes v h
  have e0 : enc v 0 = v.op := by show v.op % 256 = _; omega
  have e1 : enc v 1 = v.a := by show v.a % 256 = _; have := r.a1; have := r.a2; omega
  have e2 : enc v 2 = v.b := by show v.b % 256 = _; have := r.b1; have := r.b2; omega
  have e3 : enc v 3 = cc v % 256 := rfl
  obtain ⟨op, a, b, c, k, sub, sc, imm, lb⟩ := v
  obtain ⟨h1, h2, a1, a2, b1, b2, c1, c2, i1, i2, u0, u1, u2, u3, u4, u5, kd⟩ := r
  dsimp only at *
  subst h1 h2
  rcases hc with rfl | rfl | rfl | rfl | rfl | rfl | rfl | rfl | rfl | rfl | rfl | rfl | rfl | rfl | rfl | rfl | rfl | rfl | rfl | rfl
  all_goals try (replace u0 := u0.resolve_left (by decide))
  all_goals try (replace u1 := u1.resolve_left (by decide))
  all_goals try (replace u2 := u2.resolve_left (by decide))
  all_goals try (replace u3 := u3.resolve_left (by decide))
  all_goals try (replace u4 := u4.resolve_left (by decide))
  all_goals try (replace u5 := u5.resolve_left (by decide))
  all_goals try (replace kd := bin_rng (show Wd.hasBinB sub k = true from kd))
  all_goals try (replace kd := un_rng (show Wd.hasUnB sub k = true from kd))
  all_goals try (replace kd := conv_rng (show (Wd.numB sub && Wd.numB k) = true from kd))
  all_goals try (replace kd := word_rng (show Wd.wordB k = true from kd))
  all_goals
    unfold rd wideB
    rw [e0, e1, e2, e3, ld_enc]
    simp only [nn, cc, Int.reduceEq, or_self, or_false, or_true, if_true, if_false]
    rw [s32_mod _ (by omega) (by omega)]
    refine ⟨?_, ?_⟩
    · simp only [InV.mk.injEq, true_and, and_true]; omega
    · first | rfl | (simp; done) | (simp; omega)
theorem ok_enc (v : InV) (h : mayB v = true) : okB (enc v) = true := by
  have b := back v h
  unfold okB; rw [b.1, b.2, h]; rfl
theorem rd_congr {g g' : Nat → Int} (h : ∀ i, i < 8 → g i = g' i) : rd g = rd g' ∧ okB g = okB g' := by
  have l : Mm.ld g 4 4 = Mm.ld g' 4 4 := Mm.ld_congr fun i hi => h _ (by omega)
  have r : rd g = rd g' := by unfold rd; rw [l, h 0 (by omega), h 1 (by omega), h 2 (by omega), h 3 (by omega)]
  refine ⟨r, ?_⟩
  unfold okB wideB
  rw [r, l, h 0 (by omega)]
/-- no two instructions have the same bytes -/
theorem inj {u v : InV} (hu : mayB u = true) (hv : mayB v = true) (h : ∀ i, i < 8 → enc u i = enc v i) : u = v := by
  rw [← (back u hu).1, ← (back v hv).1, (rd_congr h).1]
theorem enc_fit (v : InV) : Mm.Fit (enc v) := by
  intro i; unfold enc
  repeat' split
  all_goals first | omega | exact Mm.by8_rng _ _
end Rc
end Go.Proofs.YtdklaeppcjopoaaGreatDoor

/- Small functions of risc, gantryref3 and gantrylaw3: contracts. -/
namespace Go.Proofs.YtdklaeppcjopoaaGreatDoor
open Go.RowKit
set_option linter.unusedVariables false

set_option maxHeartbeats 400000 in
theorem isReg_any (k : Int) (w : World) :
    Calls Tryz.prog 70 #[.int .i64 k] w fun e w' => e = .returned (.bool (Rc.regB k)) ∧ w' = w := by
  go_enter Tryz.func70, Tryz.ntmps70
  go_wp2
  all_goals (go_ret; refine ⟨ret_bool ?_, rfl⟩; simp only [Rc.regB] at *; first | (rw [Bool.eq_iff_iff]; simp at *; omega))

set_option maxHeartbeats 400000 in
theorem join_any (k s : Int) (w : World) :
    Calls Tryz.prog 54 #[.int .i64 k, .int .i64 s] w fun e w' => e = .returned (.int .i64 (wrap64 (k + 256 * s))) ∧ w' = w := by
  go_enter Tryz.func54, Tryz.ntmps54
  go_wp2
  go_ret
  refine ⟨ret_i64 ?_, rfl⟩
  unfold wrap64; omega

end Go.Proofs.YtdklaeppcjopoaaGreatDoor

/- has, unused, part, fits: contracts. -/
namespace Go.Proofs.YtdklaeppcjopoaaGreatDoor
open Go.RowKit
set_option linter.unusedVariables false

namespace Mm
theorem and_255i (n : Int) : bits .and .i64 n 255 = n % 256 := by
  show IntKind.i64.wrap ((BitVec.ofInt 64 n &&& BitVec.ofInt 64 255).toNat : Int) = _
  have e : (BitVec.ofInt 64 n &&& BitVec.ofInt 64 255).toNat = (n % 256).toNat := by
    rw [BitVec.toNat_and, BitVec.toNat_ofInt, show (BitVec.ofInt 64 255).toNat = 2 ^ 8 - 1 from rfl, Nat.and_two_pow_sub_one_eq_mod]
    omega
  rw [e, IntKind.wrap_i64]
  omega
end Mm
namespace Rc
end Rc

set_option maxHeartbeats 400000 in
theorem part_any (n : Int) (w : World) (h1 : -9223372036854775808 ≤ n) (h2 : n ≤ 9223372036854775807) :
    Calls Tryz.prog 69 #[.int .i64 n] w fun e w' => e = .returned (.tuple #[.int .i64 (n % 256), .int .i64 (n / 256)]) ∧ w' = w := by
  have HB : Hid (bits .and .i64 n 255 = n % 256) := Mm.and_255i n
  go_enter Tryz.func69, Tryz.ntmps69
  go_wp2
  go_ret2
  refine ⟨?_, rfl⟩
  rw [← HB.out]; rfl

set_option maxHeartbeats 400000 in
theorem ffits_any (c a b k n : Int) (w : World) :
    Calls Tryz.prog 56 #[.agg #[.int .i64 c, .int .i64 a, .int .i64 b, .int .i64 k, .int .i64 n]] w fun e w' => e = .returned (.bool (Rc.smallB n)) ∧ w.grownBy w' none := by
  go_enter Tryz.func56, Tryz.ntmps56
  go_wp2
  go_ret
  refine ⟨ret_bool ?_, World.grownBy_alloc _ _ _⟩
  unfold Rc.smallB wrap64 wrap32
  rw [Bool.eq_iff_iff]; simp; omega

end Go.Proofs.YtdklaeppcjopoaaGreatDoor

/- Forms of R64's instructions, as plain numbers and as values; what the walks of this layer share. -/
namespace Go.Proofs.YtdklaeppcjopoaaGreatDoor
open Go.RowKit
set_option linter.unusedVariables false

/-- a form's five numbers -/
structure FmV where
  code : Int
  a : Int
  b : Int
  c : Int
  n : Int
namespace Rc
def pk (v : InV) : FmV :=
  if v.op = 1 ∨ v.op = 2 ∨ v.op = 20 ∨ v.op = 21 then ⟨v.op, v.a, 0, 0, v.imm⟩ else if v.op = 3 ∨ v.op = 26 then ⟨v.op, v.a, v.b, 0, 0⟩
  else if v.op = 4 then ⟨v.op, v.a, v.b, v.c, wrap64 (v.k + 256 * v.sub)⟩ else if v.op = 7 ∨ v.op = 8 then ⟨v.op, v.a, v.b, 0, wrap64 (v.k + 256 * v.sub)⟩
  else if v.op = 9 then ⟨v.op, v.a, v.b, 0, v.imm⟩ else if v.op = 11 ∨ v.op = 13 then ⟨v.op, v.a, v.b, v.k, v.imm⟩ else if v.op = 15 then ⟨v.op, v.a, v.b, v.c, v.imm⟩
  else if v.op = 19 ∨ v.op = 23 ∨ v.op = 25 ∨ v.op = 29 then ⟨v.op, 0, 0, 0, v.imm⟩ else if v.op = 27 ∨ v.op = 28 then ⟨v.op, v.a, 0, 0, 0⟩ else if v.op = 24 then ⟨v.op, 0, 0, 0, 0⟩ else ⟨0, 0, 0, 0, 0⟩
def unpk (f : FmV) : InV :=
  if f.code = 1 ∨ f.code = 2 ∨ f.code = 20 ∨ f.code = 21 then ⟨f.code, f.a, 0, 0, 0, 0, 0, f.n, 0⟩ else if f.code = 3 ∨ f.code = 26 then ⟨f.code, f.a, f.b, 0, 0, 0, 0, 0, 0⟩
  else if f.code = 4 then ⟨f.code, f.a, f.b, f.c, f.n % 256, f.n / 256, 0, 0, 0⟩ else if f.code = 7 ∨ f.code = 8 then ⟨f.code, f.a, f.b, 0, f.n % 256, f.n / 256, 0, 0, 0⟩
  else if f.code = 9 then ⟨f.code, f.a, f.b, 0, 0, 0, 0, f.n, 0⟩ else if f.code = 11 ∨ f.code = 13 then ⟨f.code, f.a, f.b, 0, f.c, 0, 0, f.n, 0⟩ else if f.code = 15 then ⟨f.code, f.a, f.b, f.c, 0, 0, 0, f.n, 0⟩
  else if f.code = 19 ∨ f.code = 23 ∨ f.code = 25 ∨ f.code = 29 then ⟨f.code, 0, 0, 0, 0, 0, 0, f.n, 0⟩ else if f.code = 27 ∨ f.code = 28 then ⟨f.code, f.a, 0, 0, 0, 0, 0, 0, 0⟩ else if f.code = 24 then ⟨f.code, 0, 0, 0, 0, 0, 0, 0, 0⟩ else ⟨0, 0, 0, 0, 0, 0, 0, 0, 0⟩
end Rc
/-- as values -/
def inst (v : InV) : Value := .agg #[.int .i64 v.op, .int .i64 v.a, .int .i64 v.b, .int .i64 v.c, .int .i64 v.k, .int .i64 v.sub, .int .i64 v.scale, .int .i64 v.imm, .int .i64 v.label]
def formv (f : FmV) : Value := .agg #[.int .i64 f.code, .int .i64 f.a, .int .i64 f.b, .int .i64 f.c, .int .i64 f.n]

namespace Rc
theorem ops (o : Int) : o = 1 ∨ o = 2 ∨ o = 20 ∨ o = 21 ∨ o = 3 ∨ o = 26 ∨ o = 4 ∨ o = 7 ∨ o = 8 ∨ o = 9 ∨ o = 11 ∨ o = 13 ∨ o = 15 ∨ o = 19 ∨ o = 23 ∨ o = 25 ∨ o = 29 ∨ o = 27 ∨ o = 28 ∨ o = 24 ∨ ((o == 1) = false ∧ (o == 2) = false ∧ (o == 20) = false ∧ (o == 21) = false ∧ (o == 3) = false ∧ (o == 26) = false ∧ (o == 4) = false ∧ (o == 7) = false ∧ (o == 8) = false ∧ (o == 9) = false ∧ (o == 11) = false ∧ (o == 13) = false ∧ (o == 15) = false ∧ (o == 19) = false ∧ (o == 23) = false ∧ (o == 25) = false ∧ (o == 29) = false ∧ (o == 27) = false ∧ (o == 28) = false ∧ (o == 24) = false) := by
  by_cases h : (o = 1 ∨ o = 2 ∨ o = 20 ∨ o = 21 ∨ o = 3 ∨ o = 26 ∨ o = 4 ∨ o = 7 ∨ o = 8 ∨ o = 9 ∨ o = 11 ∨ o = 13 ∨ o = 15 ∨ o = 19 ∨ o = 23 ∨ o = 25 ∨ o = 29 ∨ o = 27 ∨ o = 28 ∨ o = 24)
  · omega
  · simp only [not_or] at h
    simp only [beq_eq_false_iff_ne]
    right; simp only [ne_eq]; omega
end Rc
theorem grown_alloc2 (w : World) (a b : Obj) : w.grownBy ((w.alloc a).alloc b) none := grown_trans (World.grownBy_alloc _ _ _) (World.grownBy_alloc _ _ _)

theorem grown_drew {w w' : World} {row : Option Nat} (h : w.grownBy w' row) : w.grownBy w'.drew row := grown_trans h ⟨rfl, rfl, rfl, Nat.le_refl _, fun _ _ _ => rfl⟩
theorem tail_drew {P : Program} {id : Nat} {Q : Exit → Act → World → Prop} {a : Act} {w : World} {l : List Oper} (n : Nat) (hm : P.follows .mixedOrders = true) (hB : Region.lexTailB .any l.toArray n = true)
    (h : wpStill P l.toArray w.drew (fun a' => wpList P l.toArray Q (l.drop n) a' w.drew) (l.take n) a) : (Code.region id l.toArray true).wp P Q a w := wp_region_still_tail n hm hB h

end Go.Proofs.YtdklaeppcjopoaaGreatDoor

/- mem.read and mem.write at each width: contracts. -/
namespace Go.Proofs.YtdklaeppcjopoaaGreatDoor
open Go.RowKit
set_option linter.unusedVariables false

set_option maxHeartbeats 400000 in
theorem read8_any (b off n cap : Nat) (g : Nat → Int) (w : World) (hn : n ≤ 1) (hnc : n ≤ cap) (hg : Mm.Fit g) (hc : ∀ i, i < n → w.cell? ⟨b, off + i, none⟩ = some (.int .u8 (g i))) :
    Calls Tryz.prog 117 #[.slice (some ⟨b, off, none⟩) n cap] w fun e w' => e = .returned (.int .u8 (Mm.ld g 0 n)) ∧ w' = w := by
  have HC : Hid (∀ i, i < n → w.cell? ⟨b, off + i, none⟩ = some (.int .u8 (g i))) := hc
  clear hc
  go_enter Tryz.func117, Tryz.ntmps117
  go_wp2
  go_loop [3, 8] (fun x i => ∃ k : Nat, k ≤ n ∧ i = .int .i64 k ∧ x = .int .u8 (Mm.ld g 0 k)) (fun _ i => n - (intOf i).toNat)
  case atStart => exact ⟨0, Nat.zero_le _, rfl, rfl⟩
  case round =>
    obtain ⟨k, hk, rfl, rfl⟩ := hrel
    by_cases hlt : k < n
    · have c := HC.out k hlt
      have S : Hid (_ = _) := Mm.read_step (kd := .u8) rfl (Mm.ld_rng hg 0 k).1 (Mm.ld_rng hg 0 k).2 (hg k).1 (hg k).2 (show (256 : Int) ^ (k + 1) ≤ 2 ^ 8 from by
        obtain ⟨d, hd⟩ : ∃ d, 1 = k + 1 + d := ⟨1 - (k + 1), by omega⟩
        have hp : (0 : Int) < 256 ^ (k + 1) := Mm.pow_pos _
        have h2 : (256 : Int) ^ 1 = 256 ^ (k + 1) * 256 ^ d := by rw [← Int.pow_add, ← hd]
        have h3 := Int.mul_le_mul_of_nonneg_left (show (1 : Int) ≤ 256 ^ d from by have := Mm.pow_pos d; omega) (Int.le_of_lt hp)
        rw [Int.mul_one, ← h2] at h3
        exact h3)
      have r := Mm.ld_rng hg 0 k
      have f := hg k
      obtain ⟨r1, r2⟩ := r
      obtain ⟨f1, f2⟩ := f
      have E : Hid (Mm.ld g 0 (k + 1) = Mm.ld g 0 k + g k * 256 ^ k) := by show _ = _; rw [Mm.ld_succ, Nat.zero_add]
      generalize Mm.ld g 0 k = x at *
      generalize g k = y at *
      go_wp2
      go_round
      case rel => exact ⟨k + 1, by omega, by go_num, congrArg (Value.int _) (Eq.trans (by first | exact S.out | (have := S.out; rw [IntKind.wrap_u8] at this; exact this)) E.out.symm)⟩
      case measure => simp [intOf]; omega
    · obtain rfl : k = n := by omega
      go_wp2
      go_ret
      exact ⟨rfl, rfl⟩

set_option maxHeartbeats 400000 in
theorem read16_any (b off n cap : Nat) (g : Nat → Int) (w : World) (hn : n ≤ 2) (hnc : n ≤ cap) (hg : Mm.Fit g) (hc : ∀ i, i < n → w.cell? ⟨b, off + i, none⟩ = some (.int .u8 (g i))) :
    Calls Tryz.prog 118 #[.slice (some ⟨b, off, none⟩) n cap] w fun e w' => e = .returned (.int .u16 (Mm.ld g 0 n)) ∧ w' = w := by
  have HC : Hid (∀ i, i < n → w.cell? ⟨b, off + i, none⟩ = some (.int .u8 (g i))) := hc
  clear hc
  go_enter Tryz.func118, Tryz.ntmps118
  go_wp2
  go_loop [3, 8] (fun x i => ∃ k : Nat, k ≤ n ∧ i = .int .i64 k ∧ x = .int .u16 (Mm.ld g 0 k)) (fun _ i => n - (intOf i).toNat)
  case atStart => exact ⟨0, Nat.zero_le _, rfl, rfl⟩
  case round =>
    obtain ⟨k, hk, rfl, rfl⟩ := hrel
    by_cases hlt : k < n
    · have c := HC.out k hlt
      have S : Hid (_ = _) := Mm.read_step (kd := .u16) rfl (Mm.ld_rng hg 0 k).1 (Mm.ld_rng hg 0 k).2 (hg k).1 (hg k).2 (show (256 : Int) ^ (k + 1) ≤ 2 ^ 16 from by
        obtain ⟨d, hd⟩ : ∃ d, 2 = k + 1 + d := ⟨2 - (k + 1), by omega⟩
        have hp : (0 : Int) < 256 ^ (k + 1) := Mm.pow_pos _
        have h2 : (256 : Int) ^ 2 = 256 ^ (k + 1) * 256 ^ d := by rw [← Int.pow_add, ← hd]
        have h3 := Int.mul_le_mul_of_nonneg_left (show (1 : Int) ≤ 256 ^ d from by have := Mm.pow_pos d; omega) (Int.le_of_lt hp)
        rw [Int.mul_one, ← h2] at h3
        exact h3)
      have r := Mm.ld_rng hg 0 k
      have f := hg k
      obtain ⟨r1, r2⟩ := r
      obtain ⟨f1, f2⟩ := f
      have E : Hid (Mm.ld g 0 (k + 1) = Mm.ld g 0 k + g k * 256 ^ k) := by show _ = _; rw [Mm.ld_succ, Nat.zero_add]
      generalize Mm.ld g 0 k = x at *
      generalize g k = y at *
      go_wp2
      go_round
      case rel => exact ⟨k + 1, by omega, by go_num, congrArg (Value.int _) (Eq.trans (by first | exact S.out | (have := S.out; rw [IntKind.wrap_u16] at this; exact this)) E.out.symm)⟩
      case measure => simp [intOf]; omega
    · obtain rfl : k = n := by omega
      go_wp2
      go_ret
      exact ⟨rfl, rfl⟩

set_option maxHeartbeats 400000 in
theorem read32_any (b off n cap : Nat) (g : Nat → Int) (w : World) (hn : n ≤ 4) (hnc : n ≤ cap) (hg : Mm.Fit g) (hc : ∀ i, i < n → w.cell? ⟨b, off + i, none⟩ = some (.int .u8 (g i))) :
    Calls Tryz.prog 119 #[.slice (some ⟨b, off, none⟩) n cap] w fun e w' => e = .returned (.int .u32 (Mm.ld g 0 n)) ∧ w' = w := by
  have HC : Hid (∀ i, i < n → w.cell? ⟨b, off + i, none⟩ = some (.int .u8 (g i))) := hc
  clear hc
  go_enter Tryz.func119, Tryz.ntmps119
  go_wp2
  go_loop [3, 8] (fun x i => ∃ k : Nat, k ≤ n ∧ i = .int .i64 k ∧ x = .int .u32 (Mm.ld g 0 k)) (fun _ i => n - (intOf i).toNat)
  case atStart => exact ⟨0, Nat.zero_le _, rfl, rfl⟩
  case round =>
    obtain ⟨k, hk, rfl, rfl⟩ := hrel
    by_cases hlt : k < n
    · have c := HC.out k hlt
      have S : Hid (_ = _) := Mm.read_step (kd := .u32) rfl (Mm.ld_rng hg 0 k).1 (Mm.ld_rng hg 0 k).2 (hg k).1 (hg k).2 (show (256 : Int) ^ (k + 1) ≤ 2 ^ 32 from by
        obtain ⟨d, hd⟩ : ∃ d, 4 = k + 1 + d := ⟨4 - (k + 1), by omega⟩
        have hp : (0 : Int) < 256 ^ (k + 1) := Mm.pow_pos _
        have h2 : (256 : Int) ^ 4 = 256 ^ (k + 1) * 256 ^ d := by rw [← Int.pow_add, ← hd]
        have h3 := Int.mul_le_mul_of_nonneg_left (show (1 : Int) ≤ 256 ^ d from by have := Mm.pow_pos d; omega) (Int.le_of_lt hp)
        rw [Int.mul_one, ← h2] at h3
        exact h3)
      have r := Mm.ld_rng hg 0 k
      have f := hg k
      obtain ⟨r1, r2⟩ := r
      obtain ⟨f1, f2⟩ := f
      have E : Hid (Mm.ld g 0 (k + 1) = Mm.ld g 0 k + g k * 256 ^ k) := by show _ = _; rw [Mm.ld_succ, Nat.zero_add]
      generalize Mm.ld g 0 k = x at *
      generalize g k = y at *
      go_wp2
      go_round
      case rel => exact ⟨k + 1, by omega, by go_num, congrArg (Value.int _) (Eq.trans (by first | exact S.out | (have := S.out; rw [IntKind.wrap_u32] at this; exact this)) E.out.symm)⟩
      case measure => simp [intOf]; omega
    · obtain rfl : k = n := by omega
      go_wp2
      go_ret
      exact ⟨rfl, rfl⟩

set_option maxHeartbeats 400000 in
theorem read64_any (b off n cap : Nat) (g : Nat → Int) (w : World) (hn : n ≤ 8) (hnc : n ≤ cap) (hg : Mm.Fit g) (hc : ∀ i, i < n → w.cell? ⟨b, off + i, none⟩ = some (.int .u8 (g i))) :
    Calls Tryz.prog 120 #[.slice (some ⟨b, off, none⟩) n cap] w fun e w' => e = .returned (.int .u64 (Mm.ld g 0 n)) ∧ w' = w := by
  have HC : Hid (∀ i, i < n → w.cell? ⟨b, off + i, none⟩ = some (.int .u8 (g i))) := hc
  clear hc
  go_enter Tryz.func120, Tryz.ntmps120
  go_wp2
  go_loop [3, 8] (fun x i => ∃ k : Nat, k ≤ n ∧ i = .int .i64 k ∧ x = .int .u64 (Mm.ld g 0 k)) (fun _ i => n - (intOf i).toNat)
  case atStart => exact ⟨0, Nat.zero_le _, rfl, rfl⟩
  case round =>
    obtain ⟨k, hk, rfl, rfl⟩ := hrel
    by_cases hlt : k < n
    · have c := HC.out k hlt
      have S : Hid (_ = _) := Mm.read_step (kd := .u64) rfl (Mm.ld_rng hg 0 k).1 (Mm.ld_rng hg 0 k).2 (hg k).1 (hg k).2 (show (256 : Int) ^ (k + 1) ≤ 2 ^ 64 from by
        obtain ⟨d, hd⟩ : ∃ d, 8 = k + 1 + d := ⟨8 - (k + 1), by omega⟩
        have hp : (0 : Int) < 256 ^ (k + 1) := Mm.pow_pos _
        have h2 : (256 : Int) ^ 8 = 256 ^ (k + 1) * 256 ^ d := by rw [← Int.pow_add, ← hd]
        have h3 := Int.mul_le_mul_of_nonneg_left (show (1 : Int) ≤ 256 ^ d from by have := Mm.pow_pos d; omega) (Int.le_of_lt hp)
        rw [Int.mul_one, ← h2] at h3
        exact h3)
      have r := Mm.ld_rng hg 0 k
      have f := hg k
      obtain ⟨r1, r2⟩ := r
      obtain ⟨f1, f2⟩ := f
      have E : Hid (Mm.ld g 0 (k + 1) = Mm.ld g 0 k + g k * 256 ^ k) := by show _ = _; rw [Mm.ld_succ, Nat.zero_add]
      generalize Mm.ld g 0 k = x at *
      generalize g k = y at *
      go_wp2
      go_round
      case rel => exact ⟨k + 1, by omega, by go_num, congrArg (Value.int _) (Eq.trans (by first | exact S.out | (have := S.out; rw [IntKind.wrap_u64] at this; exact this)) E.out.symm)⟩
      case measure => simp [intOf]; omega
    · obtain rfl : k = n := by omega
      go_wp2
      go_ret
      exact ⟨rfl, rfl⟩

end Go.Proofs.YtdklaeppcjopoaaGreatDoor

/- mem.write at each width: contracts. -/
namespace Go.Proofs.YtdklaeppcjopoaaGreatDoor
open Go.RowKit
set_option linter.unusedVariables false

theorem row_put {w : World} {D S a k : Nat} {t : TypeId} {m g : Nat → Int} (h : w.rowIs D t S (fun i => .int .u8 (Mm.pt m a k g i))) :
    (w.setCell ⟨D, a + k, none⟩ (.int .u8 (g k))).rowIs D t S (fun i => .int .u8 (Mm.pt m a (k + 1) g i)) := by
  refine (h.set (a + k) _).congr fun i _ => ?_
  rw [← Mm.pt_succ]
  show (if i = a + k then Value.int .u8 (g k) else _) = _
  by_cases e : i = a + k
  · simp [e]
  · simp [e]

theorem row_put' {w : World} {D S a k : Nat} {t : TypeId} {m g : Nat → Int} {y : Int} (h : w.rowIs D t S (fun i => .int .u8 (Mm.pt m a k g i))) (e : y = g k) :
    (w.setCell ⟨D, a + k, none⟩ (.int .u8 y)).rowIs D t S (fun i => .int .u8 (Mm.pt m a (k + 1) g i)) := by rw [e]; exact row_put h

theorem by8_top {x : Int} {k : Nat} (h : k = 0) (x1 : 0 ≤ x) (x2 : x < 256) : x / 2 ^ (8 * k) = Mm.by8 x k := by subst h; simp [Mm.by8]; omega

theorem by8_eq (x : Int) (k : Nat) : x / 2 ^ (8 * k) % 256 = Mm.by8 x k := by rw [Mm.pow8]; rfl

set_option maxHeartbeats 400000 in
theorem write8_any (D S off n cap : Nat) (m : Nat → Int) (x : Int) (w : World) (x1 : 0 ≤ x) (x2 : x < 256) (hn : n ≤ 1) (hnc : n ≤ cap) (hS : off + n ≤ S) (hr : w.rowIs D 5 S (fun i => .int .u8 (m i))) :
    Calls Tryz.prog 155 #[.slice (some ⟨D, off, none⟩) n cap, .int .u8 x] w fun e w' => e = .returned (.tuple #[]) ∧ w'.rowIs D 5 S (fun i => .int .u8 (Mm.pt m off n (Mm.by8 x) i)) ∧ w.grownBy w' (some D) := by
  go_enter Tryz.func155, Tryz.ntmps155
  go_wp2
  go_loopw [7] (fun i wr => ∃ k : Nat, k ≤ n ∧ i = .int .i64 k ∧ wr.rowIs D 5 S (fun i => .int .u8 (Mm.pt m off k (Mm.by8 x) i)) ∧ w.grownBy wr (some D)) (fun i _ => n - (intOf i).toNat)
  case atStart => exact ⟨0, Nat.zero_le _, rfl, by rw [Mm.pt_zero]; exact hr, World.grownBy.refl _ _⟩
  case round =>
    obtain ⟨k, hk, rfl, hrow, hgr⟩ := hrel
    by_cases hlt : k < n
    · have c := hrow.cell (i := off + k) (by omega)
      have f := hrow.frozen (off + k)
      go_wp2
      go_roundw
      case rel => exact ⟨k + 1, by omega, by go_num, row_put' hrow (by first | exact by8_eq x k | (rw [IntKind.wrap_u8]; exact by8_eq x k) | exact by8_top (by omega) (by omega) (by omega)), grown_trans hgr (grown_setCell _ _ _ _)⟩
      case measure => simp [intOf]; omega
    · obtain rfl : k = n := by omega
      go_wp2
      go_end0
      exact ⟨rfl, hrow, hgr⟩

set_option maxHeartbeats 400000 in
theorem write16_any (D S off n cap : Nat) (m : Nat → Int) (x : Int) (w : World) (x1 : 0 ≤ x) (x2 : x < 65536) (hn : n ≤ 2) (hnc : n ≤ cap) (hS : off + n ≤ S) (hr : w.rowIs D 5 S (fun i => .int .u8 (m i))) :
    Calls Tryz.prog 156 #[.slice (some ⟨D, off, none⟩) n cap, .int .u16 x] w fun e w' => e = .returned (.tuple #[]) ∧ w'.rowIs D 5 S (fun i => .int .u8 (Mm.pt m off n (Mm.by8 x) i)) ∧ w.grownBy w' (some D) := by
  go_enter Tryz.func156, Tryz.ntmps156
  go_wp2
  go_loopw [7] (fun i wr => ∃ k : Nat, k ≤ n ∧ i = .int .i64 k ∧ wr.rowIs D 5 S (fun i => .int .u8 (Mm.pt m off k (Mm.by8 x) i)) ∧ w.grownBy wr (some D)) (fun i _ => n - (intOf i).toNat)
  case atStart => exact ⟨0, Nat.zero_le _, rfl, by rw [Mm.pt_zero]; exact hr, World.grownBy.refl _ _⟩
  case round =>
    obtain ⟨k, hk, rfl, hrow, hgr⟩ := hrel
    by_cases hlt : k < n
    · have c := hrow.cell (i := off + k) (by omega)
      have f := hrow.frozen (off + k)
      go_wp2
      go_roundw
      case rel => exact ⟨k + 1, by omega, by go_num, row_put' hrow (by first | exact by8_eq x k | (rw [IntKind.wrap_u8]; exact by8_eq x k) | exact by8_top (by omega) (by omega) (by omega)), grown_trans hgr (grown_setCell _ _ _ _)⟩
      case measure => simp [intOf]; omega
    · obtain rfl : k = n := by omega
      go_wp2
      go_end0
      exact ⟨rfl, hrow, hgr⟩

set_option maxHeartbeats 400000 in
theorem write32_any (D S off n cap : Nat) (m : Nat → Int) (x : Int) (w : World) (x1 : 0 ≤ x) (x2 : x < 4294967296) (hn : n ≤ 4) (hnc : n ≤ cap) (hS : off + n ≤ S) (hr : w.rowIs D 5 S (fun i => .int .u8 (m i))) :
    Calls Tryz.prog 157 #[.slice (some ⟨D, off, none⟩) n cap, .int .u32 x] w fun e w' => e = .returned (.tuple #[]) ∧ w'.rowIs D 5 S (fun i => .int .u8 (Mm.pt m off n (Mm.by8 x) i)) ∧ w.grownBy w' (some D) := by
  go_enter Tryz.func157, Tryz.ntmps157
  go_wp2
  go_loopw [7] (fun i wr => ∃ k : Nat, k ≤ n ∧ i = .int .i64 k ∧ wr.rowIs D 5 S (fun i => .int .u8 (Mm.pt m off k (Mm.by8 x) i)) ∧ w.grownBy wr (some D)) (fun i _ => n - (intOf i).toNat)
  case atStart => exact ⟨0, Nat.zero_le _, rfl, by rw [Mm.pt_zero]; exact hr, World.grownBy.refl _ _⟩
  case round =>
    obtain ⟨k, hk, rfl, hrow, hgr⟩ := hrel
    by_cases hlt : k < n
    · have c := hrow.cell (i := off + k) (by omega)
      have f := hrow.frozen (off + k)
      go_wp2
      go_roundw
      case rel => exact ⟨k + 1, by omega, by go_num, row_put' hrow (by first | exact by8_eq x k | (rw [IntKind.wrap_u8]; exact by8_eq x k) | exact by8_top (by omega) (by omega) (by omega)), grown_trans hgr (grown_setCell _ _ _ _)⟩
      case measure => simp [intOf]; omega
    · obtain rfl : k = n := by omega
      go_wp2
      go_end0
      exact ⟨rfl, hrow, hgr⟩

set_option maxHeartbeats 400000 in
theorem write64_any (D S off n cap : Nat) (m : Nat → Int) (x : Int) (w : World) (x1 : 0 ≤ x) (x2 : x < 18446744073709551616) (hn : n ≤ 8) (hnc : n ≤ cap) (hS : off + n ≤ S) (hr : w.rowIs D 5 S (fun i => .int .u8 (m i))) :
    Calls Tryz.prog 158 #[.slice (some ⟨D, off, none⟩) n cap, .int .u64 x] w fun e w' => e = .returned (.tuple #[]) ∧ w'.rowIs D 5 S (fun i => .int .u8 (Mm.pt m off n (Mm.by8 x) i)) ∧ w.grownBy w' (some D) := by
  go_enter Tryz.func158, Tryz.ntmps158
  go_wp2
  go_loopw [7] (fun i wr => ∃ k : Nat, k ≤ n ∧ i = .int .i64 k ∧ wr.rowIs D 5 S (fun i => .int .u8 (Mm.pt m off k (Mm.by8 x) i)) ∧ w.grownBy wr (some D)) (fun i _ => n - (intOf i).toNat)
  case atStart => exact ⟨0, Nat.zero_le _, rfl, by rw [Mm.pt_zero]; exact hr, World.grownBy.refl _ _⟩
  case round =>
    obtain ⟨k, hk, rfl, hrow, hgr⟩ := hrel
    by_cases hlt : k < n
    · have c := hrow.cell (i := off + k) (by omega)
      have f := hrow.frozen (off + k)
      go_wp2
      go_roundw
      case rel => exact ⟨k + 1, by omega, by go_num, row_put' hrow (by first | exact by8_eq x k | (rw [IntKind.wrap_u8]; exact by8_eq x k) | exact by8_top (by omega) (by omega) (by omega)), grown_trans hgr (grown_setCell _ _ _ _)⟩
      case measure => simp [intOf]; omega
    · obtain rfl : k = n := by omega
      go_wp2
      go_end0
      exact ⟨rfl, hrow, hgr⟩

end Go.Proofs.YtdklaeppcjopoaaGreatDoor

/- mem.pick, mem.lay, (*Mem).room, New, Size: contracts. -/
namespace Go.Proofs.YtdklaeppcjopoaaGreatDoor
open Go.RowKit
set_option linter.unusedVariables false

set_option maxHeartbeats 400000 in
theorem pick_any (b off n cap : Nat) (g : Nat → Int) (w : World) (hn : n = 1 ∨ n = 2 ∨ n = 4 ∨ n = 8) (hnc : n ≤ cap) (hg : Mm.Fit g) (hc : ∀ i, i < n → w.cell? ⟨b, off + i, none⟩ = some (.int .u8 (g i))) :
    Calls Tryz.prog 110 #[.slice (some ⟨b, off, none⟩) n cap] w fun e w' => e = .returned (.int .u64 (Mm.ld g 0 n)) ∧ w' = w := by
  have HC : Hid (∀ i, i < n → w.cell? ⟨b, off + i, none⟩ = some (.int .u8 (g i))) := hc
  clear hc
  have r := Mm.ld_rng hg 0 n
  obtain ⟨r1, r2⟩ := r
  rcases hn with rfl | rfl | rfl | rfl
  all_goals
    generalize hz : Mm.ld g 0 _ = z at *
    have HZ : Hid (Mm.ld g 0 _ = z) := hz
    clear hz
    simp only [Int.reducePow] at r2
    go_enter Tryz.func110, Tryz.ntmps110
    go_wp2_with (first
      | (go_at_call 117; refine (read8_any b off _ cap g _ (by decide) (by assumption) (by assumption) HC.out).mono ?_; rw [HZ.out]; rintro e w' ⟨rfl, rfl⟩)
      | (go_at_call 118; refine (read16_any b off _ cap g _ (by decide) (by assumption) (by assumption) HC.out).mono ?_; rw [HZ.out]; rintro e w' ⟨rfl, rfl⟩)
      | (go_at_call 119; refine (read32_any b off _ cap g _ (by decide) (by assumption) (by assumption) HC.out).mono ?_; rw [HZ.out]; rintro e w' ⟨rfl, rfl⟩)
      | (go_at_call 120; refine (read64_any b off _ cap g _ (by decide) (by assumption) (by assumption) HC.out).mono ?_; rw [HZ.out]; rintro e w' ⟨rfl, rfl⟩))
    go_ret
    exact ⟨rfl, rfl⟩

theorem lay_eq {w' : World} {D S off n N : Nat} {t : TypeId} {m : Nat → Int} {x : Int} (h : w'.rowIs D t S (fun i => .int .u8 (Mm.pt m off n (Mm.by8 (x % 256 ^ N)) i))) (hn : n ≤ N) :
    w'.rowIs D t S (fun i => .int .u8 (Mm.pt m off n (Mm.by8 x) i)) := by
  rw [Mm.pt_congr (g' := Mm.by8 x) (fun i hi => Mm.by8_mod x i N (by omega))] at h
  exact h

set_option maxHeartbeats 400000 in
theorem lay_any (D S off n cap : Nat) (m : Nat → Int) (x : Int) (w : World) (hn : n = 1 ∨ n = 2 ∨ n = 4 ∨ n = 8) (x1 : 0 ≤ x) (x2 : x < 18446744073709551616) (hnc : n ≤ cap) (hS : off + n ≤ S) (hr : w.rowIs D 5 S (fun i => .int .u8 (m i))) :
    Calls Tryz.prog 154 #[.slice (some ⟨D, off, none⟩) n cap, .int .u64 x] w fun e w' => e = .returned (.tuple #[]) ∧ w'.rowIs D 5 S (fun i => .int .u8 (Mm.pt m off n (Mm.by8 x) i)) ∧ w.grownBy w' (some D) := by
  rcases hn with rfl | rfl | rfl | rfl
  · have y1 : 0 ≤ x % 256 := by omega
    have y2 : x % 256 < 256 := by omega
    have L := fun w' => @lay_eq w' D S off 1 1 5 m x
    have HX : Hid (x % 256 ^ 1 = x % 256) := rfl
    go_enter Tryz.func154, Tryz.ntmps154
    go_wp2_with (go_at_call 155; refine (write8_any D S off _ cap m _ _ (by first | assumption | omega) (by first | assumption | omega) (by decide) (by assumption) (by assumption) (by assumption)).mono ?_; rintro e w' ⟨rfl, hr', hg'⟩)
    go_end0
    exact ⟨rfl, L _ (by rw [HX.out]; exact hr') (by decide), hg'⟩
  · have y1 : 0 ≤ x % 65536 := by omega
    have y2 : x % 65536 < 65536 := by omega
    have L := fun w' => @lay_eq w' D S off 2 2 5 m x
    have HX : Hid (x % 256 ^ 2 = x % 65536) := rfl
    go_enter Tryz.func154, Tryz.ntmps154
    go_wp2_with (go_at_call 156; refine (write16_any D S off _ cap m _ _ (by first | assumption | omega) (by first | assumption | omega) (by decide) (by assumption) (by assumption) (by assumption)).mono ?_; rintro e w' ⟨rfl, hr', hg'⟩)
    go_end0
    exact ⟨rfl, L _ (by rw [HX.out]; exact hr') (by decide), hg'⟩
  · have y1 : 0 ≤ x % 4294967296 := by omega
    have y2 : x % 4294967296 < 4294967296 := by omega
    have L := fun w' => @lay_eq w' D S off 4 4 5 m x
    have HX : Hid (x % 256 ^ 4 = x % 4294967296) := rfl
    go_enter Tryz.func154, Tryz.ntmps154
    go_wp2_with (go_at_call 157; refine (write32_any D S off _ cap m _ _ (by first | assumption | omega) (by first | assumption | omega) (by decide) (by assumption) (by assumption) (by assumption)).mono ?_; rintro e w' ⟨rfl, hr', hg'⟩)
    go_end0
    exact ⟨rfl, L _ (by rw [HX.out]; exact hr') (by decide), hg'⟩
  · go_enter Tryz.func154, Tryz.ntmps154
    go_wp2_with (go_at_call 158; refine (write64_any D S off _ cap m _ _ (by first | assumption | omega) (by first | assumption | omega) (by decide) (by assumption) (by assumption) (by assumption)).mono ?_; rintro e w' ⟨rfl, hr', hg'⟩)
    go_end0
    exact ⟨rfl, hr', hg'⟩

abbrev IsM := IsMem 138

theorem IsMem.cell {t : TypeId} {w : World} {B D S : Nat} {m : Nat → Int} (h : IsMem t w B D S m) : w.cell? ⟨B, 0, none⟩ = some (.slice (some ⟨D, 0, none⟩) S S) := h.head.cell (i := 0) (by omega)

set_option maxHeartbeats 400000 in
theorem room_none (B D S : Nat) (m : Nat → Int) (a : Int) (w : World) (hm : IsM w B D S m) :
    Calls Tryz.prog 67 #[.pointer (some ⟨B, 0, none⟩), .int .u64 a, .int .i64 0] w fun e w' => e = .returned (.tuple #[.slice none 0 0, .bool true]) ∧ w' = w := by
  go_enter Tryz.func67, Tryz.ntmps67
  go_wp2
  go_ret2
  exact ⟨rfl, rfl⟩

set_option maxRecDepth 20000 in
set_option maxHeartbeats 400000 in
theorem room_in (B D S : Nat) (m : Nat → Int) (a n : Nat) (w : World) (hm : IsM w B D S m) (hS : (S : Int) ≤ 1048576) (h0 : 0 < n) (h1 : (4096 : Int) ≤ a) (h2 : a + n ≤ S) :
    Calls Tryz.prog 67 #[.pointer (some ⟨B, 0, none⟩), .int .u64 a, .int .i64 n] w fun e w' => e = .returned (.tuple #[.slice (some ⟨D, a, none⟩) n n, .bool true]) ∧ w' = w := by
  have c := hm.cell
  go_enter Tryz.func67, Tryz.ntmps67
  go_wp2
  go_ret2
  have e : a + n - a = n := by omega
  refine ⟨?_, rfl⟩
  show Ending.returned (.tuple #[.slice (some ⟨D, a, none⟩) (a + n - a) (a + n - a), .bool true]) = _
  rw [e]

set_option maxHeartbeats 400000 in
theorem room_out (B D S : Nat) (m : Nat → Int) (a n : Int) (w : World) (hm : IsM w B D S m) (hS : (S : Int) ≤ 1048576) (a1 : 0 ≤ a) (a2 : a < 18446744073709551616) (n1 : -9223372036854775808 ≤ n) (n2 : n ≤ 9223372036854775807) (h0 : (n == 0) = false) (h : n < 0 ∨ a < 4096 ∨ (S : Int) < a + n) :
    Calls Tryz.prog 67 #[.pointer (some ⟨B, 0, none⟩), .int .u64 a, .int .i64 n] w fun e w' => e = .returned (.tuple #[.slice none 0 0, .bool false]) ∧ w' = w := by
  have c := hm.cell
  go_enter Tryz.func67, Tryz.ntmps67
  go_wp2
  all_goals (go_ret2; exact ⟨rfl, rfl⟩)

end Go.Proofs.YtdklaeppcjopoaaGreatDoor

/- mem.New, Size and the page's own New, May: contracts. -/
namespace Go.Proofs.YtdklaeppcjopoaaGreatDoor
open Go.RowKit
set_option linter.unusedVariables false

theorem info_u8 : (Tryz.prog.info? 5).map (fun i => (i.zero, i.size, i.bytes)) = some (some (.int .u8 0), 1, 1) := by kernel_rfl

theorem born (t : TypeId) (w : World) (S : Nat) : IsMem t ((w.alloc (.cells (madeCells #[.int .u8 0] S) 5)).alloc (.cells #[.slice (some ⟨w.heap.size, 0, none⟩) S S] t)) (w.heap.size + 1) w.heap.size S (fun _ => 0) ∧
    w.grownBy ((w.alloc (.cells (madeCells #[.int .u8 0] S) 5)).alloc (.cells #[.slice (some ⟨w.heap.size, 0, none⟩) S S] t)) none := by
  refine ⟨⟨?_, (World.rowIs_made w _ S _).alloc _, fun _ => by omega⟩, grown_trans (World.grownBy_alloc _ _ _) (World.grownBy_alloc _ _ _)⟩
  have := World.rowIs_alloc (w.alloc (.cells (madeCells #[.int .u8 0] S) 5)) #[.slice (some ⟨w.heap.size, 0, none⟩) S S] t (fun _ => .slice (some ⟨w.heap.size, 0, none⟩) S S)
    (fun i hi => by simp at hi; subst hi; rfl)
  simpa using this

set_option maxRecDepth 40000 in
set_option maxHeartbeats 400000 in
theorem new_in (S : Nat) (w : World) (h1 : (8192 : Int) ≤ S) (h2 : (S : Int) ≤ 1048576) :
    Calls Tryz.prog 46 #[.int .i64 S] w fun e w' => e = .returned (.tuple #[.pointer (some ⟨w.heap.size + 1, 0, none⟩), .int .i64 0]) ∧ IsM w' (w.heap.size + 1) w.heap.size S (fun _ => 0) ∧ w.grownBy w' none := by
  have hmk := run_make_row' (P := Tryz.prog) 56 5 _ _ Tryz.underlying56 info_u8 rfl .i64 .i64 S (by omega) (by omega)
  have HB : Hid _ := born 138 w S
  go_enter Tryz.func46, Tryz.ntmps46
  go_wp2
  go_ret2
  exact ⟨rfl, HB.out⟩

end Go.Proofs.YtdklaeppcjopoaaGreatDoor

/- (*Mem).Load, Store: contracts. -/
namespace Go.Proofs.YtdklaeppcjopoaaGreatDoor
open Go.RowKit
set_option linter.unusedVariables false

namespace Mm
/-- do n bytes from a on lie in a memory of S bytes? -/
def hasB (S : Nat) (a n : Int) : Bool := decide (4096 ≤ a) && decide (a + n ≤ S)
/-- what Load, Store answer -/
def lE (S : Nat) (k a : Int) : Int := if Wd.wordB k then (if hasB S a (Wd.by' k) then 0 else 21) else 10
def lV (S : Nat) (m : Nat → Int) (k a : Int) : Int := if Wd.wordB k && hasB S a (Wd.by' k) then Wd.canon k (ld m a.toNat (Wd.by' k).toNat) else 0
def sE (S : Nat) (k a x : Int) : Int := if Wd.wordB k then (if Wd.isB k x then (if hasB S a (Wd.by' k) then 0 else 21) else 11) else 10
def sM (S : Nat) (m : Nat → Int) (k a x : Int) : Nat → Int := if Wd.wordB k && Wd.isB k x && hasB S a (Wd.by' k) then pt m a.toNat (Wd.by' k).toNat (by8 x) else m
theorem by_cases (k : Int) : (Wd.wordB k = false ∧ Wd.by' k = 0) ∨ (Wd.wordB k = true ∧ (Wd.by' k = 1 ∨ Wd.by' k = 2 ∨ Wd.by' k = 4 ∨ Wd.by' k = 8)) := by
  rcases Wd.kinds k with h | h | h | h | h | h | h | h | h | h | h | h
  all_goals first
    | (subst h; right; exact ⟨rfl, by decide⟩)
    | (left; constructor
       · unfold Wd.wordB; simp; omega
       · unfold Wd.by' Wd.wid; rw [if_neg (by omega), if_neg (by omega), if_neg (by omega), if_neg (by omega), if_neg (by omega)]; rfl)
theorem lE_no {S : Nat} {k a : Int} (h : Wd.wordB k = false) : lE S k a = 10 := by unfold lE; rw [h]; rfl
theorem lV_no {S : Nat} {m : Nat → Int} {k a : Int} (h : Wd.wordB k = false) : lV S m k a = 0 := by unfold lV; rw [h]; rfl
theorem lE_out {S : Nat} {k a : Int} (h : Wd.wordB k = true) (h2 : hasB S a (Wd.by' k) = false) : lE S k a = 21 := by unfold lE; rw [h, h2]; rfl
theorem lV_out {S : Nat} {m : Nat → Int} {k a : Int} (h2 : hasB S a (Wd.by' k) = false) : lV S m k a = 0 := by unfold lV; rw [h2, Bool.and_false]; rfl
theorem lE_in {S : Nat} {k a : Int} (h : Wd.wordB k = true) (h2 : hasB S a (Wd.by' k) = true) : lE S k a = 0 := by unfold lE; rw [h, h2]; rfl
theorem lV_in {S : Nat} {m : Nat → Int} {k a : Int} (h : Wd.wordB k = true) (h2 : hasB S a (Wd.by' k) = true) : lV S m k a = Wd.canon k (ld m a.toNat (Wd.by' k).toNat) := by unfold lV; rw [h, h2]; rfl
theorem sE_no {S : Nat} {k a x : Int} (h : Wd.wordB k = false) : sE S k a x = 10 := by unfold sE; rw [h]; rfl
theorem sM_no {S : Nat} {m : Nat → Int} {k a x : Int} (h : Wd.wordB k = false) : sM S m k a x = m := by unfold sM; rw [h]; rfl
theorem sE_form {S : Nat} {k a x : Int} (h : Wd.wordB k = true) (h1 : Wd.isB k x = false) : sE S k a x = 11 := by unfold sE; rw [h, h1]; rfl
theorem sM_form {S : Nat} {m : Nat → Int} {k a x : Int} (h1 : Wd.isB k x = false) : sM S m k a x = m := by unfold sM; rw [h1, Bool.and_false]; rfl
theorem sE_out {S : Nat} {k a x : Int} (h : Wd.wordB k = true) (h1 : Wd.isB k x = true) (h2 : hasB S a (Wd.by' k) = false) : sE S k a x = 21 := by unfold sE; rw [h, h1, h2]; rfl
theorem sM_out {S : Nat} {m : Nat → Int} {k a x : Int} (h2 : hasB S a (Wd.by' k) = false) : sM S m k a x = m := by unfold sM; rw [h2, Bool.and_false]; rfl
theorem sE_in {S : Nat} {k a x : Int} (h : Wd.wordB k = true) (h1 : Wd.isB k x = true) (h2 : hasB S a (Wd.by' k) = true) : sE S k a x = 0 := by unfold sE; rw [h, h1, h2]; rfl
theorem sM_in {S : Nat} {m : Nat → Int} {k a x : Int} (h : Wd.wordB k = true) (h1 : Wd.isB k x = true) (h2 : hasB S a (Wd.by' k) = true) : sM S m k a x = pt m a.toNat (Wd.by' k).toNat (by8 x) := by unfold sM; rw [h, h1, h2]; rfl
theorem has_in {S : Nat} {a n : Int} (h : hasB S a n = true) : 4096 ≤ a ∧ a + n ≤ S := by unfold hasB at h; simpa using h
theorem has_out {S : Nat} {a n : Int} (h : hasB S a n = false) : a < 4096 ∨ (S : Int) < a + n := by unfold hasB at h; simp at h; omega
theorem pow_le {n : Nat} (h : n = 1 ∨ n = 2 ∨ n = 4 ∨ n = 8) : (256 : Int) ^ n ≤ 18446744073709551616 := by rcases h with rfl | rfl | rfl | rfl <;> decide
end Mm

theorem row_cells {w : World} {D S a n : Nat} {m : Nat → Int} {t : TypeId} (h : w.rowIs D t S (fun i => .int .u8 (m i))) (hS : a + n ≤ S) : ∀ i, i < n → w.cell? ⟨D, a + i, none⟩ = some (.int .u8 ((fun i => m (a + i)) i)) :=
  fun i hi => h.cell (i := a + i) (by omega)

set_option maxHeartbeats 800000 in
theorem load_any (B D S : Nat) (m : Nat → Int) (a k : Int) (w : World) (hm : IsM w B D S m) (hS : (S : Int) ≤ 1048576) (a1 : 0 ≤ a) (a2 : a < 18446744073709551616) :
    Calls Tryz.prog 87 #[.pointer (some ⟨B, 0, none⟩), .int .u64 a, .int .i64 k] w fun e w' => e = .returned (.tuple #[.int .u64 (Mm.lV S m k a), .int .i64 (Mm.lE S k a)]) ∧ w' = w := by
  rcases Mm.by_cases k with ⟨hk, hb⟩ | ⟨hk, hb⟩
  · have hb0 : (Wd.by' k == 0) = true := by rw [hb]; rfl
    have HE : Hid (Mm.lE S k a = 10) := Mm.lE_no hk
    have HV : Hid (Mm.lV S m k a = 0) := Mm.lV_no hk
    clear hb
    go_enter Tryz.func87, Tryz.ntmps87
    go_wp2_with (go_at_call 109; refine (bytes_any _ _).mono ?_; rintro e w' ⟨rfl, rfl⟩)
    go_ret2
    rw [HE.out, HV.out]
    exact ⟨rfl, rfl⟩
  · have hb0 : (Wd.by' k == 0) = false := by rcases hb with h | h | h | h <;> rw [h] <;> rfl
    cases h2 : Mm.hasB S a (Wd.by' k)
    · have HE : Hid (Mm.lE S k a = 21) := Mm.lE_out hk h2
      have HV : Hid (Mm.lV S m k a = 0) := Mm.lV_out h2
      have ho := Mm.has_out h2
      have hlo : -9223372036854775808 ≤ Wd.by' k := by omega
      have hhi : Wd.by' k ≤ 9223372036854775807 := by omega
      obtain ⟨n, hn⟩ : ∃ n, Wd.by' k = n := ⟨_, rfl⟩
      rw [hn] at hb0 ho hlo hhi
      have HN : Hid (Wd.by' k = n) := hn
      have HO : Hid (a < 4096 ∨ (S : Int) < a + n) := ho
      clear hb h2 ho hn
      go_enter Tryz.func87, Tryz.ntmps87
      go_wp2_with (first
        | (go_at_call 109; refine (bytes_any _ _).mono ?_; rw [HN.out]; rintro e w' ⟨rfl, rfl⟩)
        | (go_at_call 67; refine (room_out B D S m _ _ _ hm hS a1 a2 hlo hhi hb0 (Or.inr HO.out)).mono ?_; rintro e w' ⟨rfl, rfl⟩))
      go_ret2
      rw [HE.out, HV.out]
      exact ⟨rfl, rfl⟩
    · have HE : Hid (Mm.lE S k a = 0) := Mm.lE_in hk h2
      obtain ⟨ha, hs⟩ := Mm.has_in h2
      obtain ⟨A, rfl⟩ := Int.eq_ofNat_of_zero_le a1
      obtain ⟨n, hn⟩ : ∃ n : Nat, Wd.by' k = n := ⟨(Wd.by' k).toNat, by omega⟩
      have HV : Hid (Mm.lV S m k A = Wd.canon k (Mm.ld (fun i => m (A + i)) 0 n)) := by
        show _ = _
        rw [Mm.lV_in hk h2, hn, Int.toNat_natCast, Int.toNat_natCast, Mm.ld_shift]
      have hf : Mm.Fit (fun i => m (A + i)) := fun i => hm.fit (A + i)
      have hr := Mm.ld_rng hf 0 n
      have hn8 : n = 1 ∨ n = 2 ∨ n = 4 ∨ n = 8 := by omega
      have hp := Mm.pow_le hn8
      have r1 : 0 ≤ Mm.ld (fun i => m (A + i)) 0 n := hr.1
      have r2 : Mm.ld (fun i => m (A + i)) 0 n < 18446744073709551616 := by omega
      have HN : Hid (Wd.by' k = n) := hn
      have HC : Hid (∀ i, i < n → w.cell? ⟨D, A + i, none⟩ = some (.int .u8 ((fun i => m (A + i)) i))) := row_cells hm.row (by omega)
      have n0 : (((n : Nat) : Int) == 0) = false := by rw [hn] at hb0; exact hb0
      have npos : 0 < n := by omega
      have HS : Hid (A + n ≤ S) := (show A + n ≤ S from by omega)
      have H8 : Hid (n = 1 ∨ n = 2 ∨ n = 4 ∨ n = 8) := hn8
      have HF : Hid (Mm.Fit (fun i => m (A + i))) := hf
      clear hr hp hb hn hb0 hn8 hs h2 a1 hf
      go_enter Tryz.func87, Tryz.ntmps87
      go_wp2_with (first
        | (go_at_call 109; refine (bytes_any _ _).mono ?_; rw [HN.out]; rintro e w' ⟨rfl, rfl⟩)
        | (go_at_call 67; refine (room_in B D S m A n _ hm hS npos ha HS.out).mono ?_; rintro e w' ⟨rfl, rfl⟩)
        | (go_at_call 110; refine (pick_any D A n n (fun i => m (A + i)) _ H8.out (Nat.le_refl _) HF.out HC.out).mono ?_; rintro e w' ⟨rfl, rfl⟩; generalize Mm.ld (fun i => m (A + i)) 0 n = z at *)
        | (go_at_call 95; refine (canon_any _ _ _ r1 r2).mono ?_; rintro e w' ⟨rfl, rfl⟩))
      go_ret2
      rw [HE.out, HV.out]
      exact ⟨rfl, rfl⟩

end Go.Proofs.YtdklaeppcjopoaaGreatDoor

/- (*Mem).Store: contract. -/
namespace Go.Proofs.YtdklaeppcjopoaaGreatDoor
open Go.RowKit
set_option linter.unusedVariables false

theorem IsMem.put {t : TypeId} {w w' : World} {B D S : Nat} {m m' : Nat → Int} (h : IsMem t w B D S m) (hg : w.grownBy w' (some D)) (ht : t ≠ 5) (hr : w'.rowIs D 5 S (fun i => .int .u8 (m' i))) (hf : Mm.Fit m') : IsMem t w' B D S m' := by
  refine ⟨h.head.of_block (hg.block B h.head.lt ?_), hr, hf⟩
  intro e
  injection e with e
  subst e
  obtain ⟨c, hc, _⟩ := h.head
  obtain ⟨d, hd, _⟩ := h.row
  rw [hc] at hd
  injection hd with hd
  injection hd with _ hd
  exact ht hd

theorem IsMem.apart {t : TypeId} {w : World} {B D S : Nat} {m : Nat → Int} (h : IsMem t w B D S m) (ht : t ≠ 5) : B ≠ D := by
  intro e
  subst e
  obtain ⟨c, hc, _⟩ := h.head
  obtain ⟨d, hd, _⟩ := h.row
  rw [hc] at hd
  injection hd with hd
  injection hd with _ hd
  exact ht hd

set_option maxHeartbeats 800000 in
theorem store_any (B D S : Nat) (m : Nat → Int) (a k x : Int) (w : World) (hm : IsM w B D S m) (hS : (S : Int) ≤ 1048576) (a1 : 0 ≤ a) (a2 : a < 18446744073709551616) (x1 : 0 ≤ x) (x2 : x < 18446744073709551616) :
    Calls Tryz.prog 153 #[.pointer (some ⟨B, 0, none⟩), .int .u64 a, .int .i64 k, .int .u64 x] w fun e w' => e = .returned (.int .i64 (Mm.sE S k a x)) ∧ IsM w' B D S (Mm.sM S m k a x) ∧ w.grownBy w' (some D) := by
  rcases Mm.by_cases k with ⟨hk, hb⟩ | ⟨hk, hb⟩
  · have hb0 : (Wd.by' k == 0) = true := by rw [hb]; rfl
    have HE : Hid (Mm.sE S k a x = 10) := Mm.sE_no hk
    have HV : Hid (Mm.sM S m k a x = m) := Mm.sM_no hk
    clear hb
    go_enter Tryz.func153, Tryz.ntmps153
    go_wp2_with (go_at_call 109; refine (bytes_any _ _).mono ?_; rintro e w' ⟨rfl, rfl⟩)
    go_ret
    rw [HE.out, HV.out]
    exact ⟨rfl, hm, World.grownBy.refl _ _⟩
  · have hb0 : (Wd.by' k == 0) = false := by rcases hb with h | h | h | h <;> rw [h] <;> rfl
    cases h1 : Wd.isB k x
    · have HE : Hid (Mm.sE S k a x = 11) := Mm.sE_form hk h1
      have HV : Hid (Mm.sM S m k a x = m) := Mm.sM_form h1
      clear hb
      go_enter Tryz.func153, Tryz.ntmps153
      go_wp2_with (first
        | (go_at_call 109; refine (bytes_any _ _).mono ?_; rintro e w' ⟨rfl, rfl⟩)
        | (go_at_call 89; refine (is_any _ _ _ x1 x2).mono ?_; rintro e w' ⟨rfl, rfl⟩))
      go_ret
      rw [HE.out, HV.out]
      exact ⟨rfl, hm, World.grownBy.refl _ _⟩
    · cases h2 : Mm.hasB S a (Wd.by' k)
      · have HE : Hid (Mm.sE S k a x = 21) := Mm.sE_out hk h1 h2
        have HV : Hid (Mm.sM S m k a x = m) := Mm.sM_out h2
        have ho := Mm.has_out h2
        have hlo : -9223372036854775808 ≤ Wd.by' k := by omega
        have hhi : Wd.by' k ≤ 9223372036854775807 := by omega
        obtain ⟨n, hn⟩ : ∃ n, Wd.by' k = n := ⟨_, rfl⟩
        rw [hn] at hb0 ho hlo hhi
        have HN : Hid (Wd.by' k = n) := hn
        have HO : Hid (a < 4096 ∨ (S : Int) < a + n) := ho
        clear hb h2 ho hn
        go_enter Tryz.func153, Tryz.ntmps153
        go_wp2_with (first
          | (go_at_call 109; refine (bytes_any _ _).mono ?_; rw [HN.out]; rintro e w' ⟨rfl, rfl⟩)
          | (go_at_call 89; refine (is_any _ _ _ x1 x2).mono ?_; rintro e w' ⟨rfl, rfl⟩)
          | (go_at_call 67; refine (room_out B D S m _ _ _ hm hS a1 a2 hlo hhi hb0 (Or.inr HO.out)).mono ?_; rintro e w' ⟨rfl, rfl⟩))
        go_ret
        rw [HE.out, HV.out]
        exact ⟨rfl, hm, World.grownBy.refl _ _⟩
      · have HE : Hid (Mm.sE S k a x = 0) := Mm.sE_in hk h1 h2
        obtain ⟨ha, hs⟩ := Mm.has_in h2
        obtain ⟨A, rfl⟩ := Int.eq_ofNat_of_zero_le a1
        obtain ⟨n, hn⟩ : ∃ n : Nat, Wd.by' k = n := ⟨(Wd.by' k).toNat, by omega⟩
        have HV : Hid (Mm.sM S m k A x = Mm.pt m A n (Mm.by8 x)) := by
          show _ = _
          rw [Mm.sM_in hk h1 h2, hn, Int.toNat_natCast, Int.toNat_natCast]
        have hn8 : n = 1 ∨ n = 2 ∨ n = 4 ∨ n = 8 := by omega
        have HN : Hid (Wd.by' k = n) := hn
        have n0 : (((n : Nat) : Int) == 0) = false := by rw [hn] at hb0; exact hb0
        have npos : 0 < n := by omega
        have HS : Hid (A + n ≤ S) := (show A + n ≤ S from by omega)
        have H8 : Hid (n = 1 ∨ n = 2 ∨ n = 4 ∨ n = 8) := hn8
        clear hb hn hb0 hn8 hs h2 a1
        go_enter Tryz.func153, Tryz.ntmps153
        go_wp2_with (first
          | (go_at_call 109; refine (bytes_any _ _).mono ?_; rw [HN.out]; rintro e w' ⟨rfl, rfl⟩)
          | (go_at_call 89; refine (is_any _ _ _ x1 x2).mono ?_; rintro e w' ⟨rfl, rfl⟩)
          | (go_at_call 67; refine (room_in B D S m A n _ hm hS npos ha HS.out).mono ?_; rintro e w' ⟨rfl, rfl⟩)
          | (go_at_call 154; refine (lay_any D S A n n m x _ H8.out x1 x2 (Nat.le_refl _) HS.out hm.row).mono ?_; rintro e w2 ⟨rfl, hr2, hg2⟩))
        go_ret
        rw [HE.out, HV.out]
        exact ⟨rfl, hm.put hg2 (by decide) hr2 (Mm.pt_fit hm.fit (Mm.by8_fit x) _ _), hg2⟩

end Go.Proofs.YtdklaeppcjopoaaGreatDoor

/- (*Mem).Get, Put: contracts. -/
namespace Go.Proofs.YtdklaeppcjopoaaGreatDoor
open Go.RowKit
set_option linter.unusedVariables false

def bytesL (n : Nat) (g : Nat → Int) : List Value := (List.range n).map fun i => .int .u8 (g i)
theorem bytesL_len (n : Nat) (g : Nat → Int) : (bytesL n g).length = n := by simp [bytesL]
theorem bytesL_get {n : Nat} {g : Nat → Int} {j : Nat} {v : Value} (h : (bytesL n g)[j]? = some v) : j < n ∧ v = .int .u8 (g j) := by
  have hj : j < n := by
    rw [← bytesL_len n g]
    exact (List.getElem?_eq_some_iff.1 h).1
  refine ⟨hj, ?_⟩
  simp [bytesL, hj] at h
  exact h.symm
theorem bytesL_at {n : Nat} (g : Nat → Int) {j : Nat} (h : j < n) : (bytesL n g)[j]? = some (.int .u8 (g j)) := by simp [bytesL, h]
theorem bytesL_one (n : Nat) (g : Nat → Int) : ∀ v ∈ bytesL n g, v.oneCell' = true := by
  intro v hv
  obtain ⟨i, _, rfl⟩ := List.mem_map.1 hv
  rfl
theorem add_none (b off n : Nat) : (⟨b, off, none⟩ : Addr).add n = ⟨b, off + n, none⟩ := by
  unfold Addr.add; split <;> simp_all

/-- bytes that the call itself made -/
def OwnB (w : World) (base : Nat) (v : Value) (n : Nat) (g : Nat → Int) : Prop := w.ownsRow base 5 1 v n (bytesL n g)

theorem OwnB.kept {w w' : World} {base n : Nat} {v : Value} {g : Nat → Int} {row : Option Nat} (h : OwnB w base v n g) (hg : w.grownBy w' row) (hne : v.ownBlock = none ∨ v.ownBlock ≠ row) : OwnB w' base v n g := World.ownsRow.kept h hg hne
theorem OwnB.lt {w : World} {base n : Nat} {v : Value} {g : Nat → Int} (h : OwnB w base v n g) : ∀ k, v.ownBlock = some k → base ≤ k ∧ k < w.heap.size := World.ownsRow.lt h
theorem OwnB.shape {w : World} {base n : Nat} {v : Value} {g : Nat → Int} (h : OwnB w base v n g) : ∃ ao cap, v = .slice ao n cap ∧ (ao = none → n = 0 ∧ cap = 0) ∧ n ≤ cap ∧ cap ≤ maxLen ∧ Bs w ao n g := by
  obtain ⟨hl, h⟩ := h
  rcases h with ⟨rfl, rfl⟩ | ⟨b, cap, cur, rfl, hb, hh, hn, hc, hs, ht⟩
  · exact ⟨none, 0, rfl, fun _ => ⟨rfl, rfl⟩, Nat.le_refl _, by unfold maxLen; omega, .inl rfl⟩
  · refine ⟨some ⟨b, 0, none⟩, cap, rfl, (fun h => by cases h), hn, hc, .inr ⟨b, 0, rfl, fun i hi => ?_⟩⟩
    have h1 : (bytesL n g)[i]? = some (.int .u8 (g i)) := bytesL_at g hi
    rw [← ht, List.getElem?_take, if_pos (by omega)] at h1
    simp only [World.cell?, hh]
    simpa using h1

theorem info1 : (Tryz.prog.info? 5).map (·.size) = some 1 := by kernel_rfl

/-- copy of bytes into a row of the call's own -/
theorem run_copy_bytes {w : World} (D S off n dc b o' cap : Nat) (m g : Nat → Int) (hr : w.rowIs D 5 S (fun i => .int .u8 (m i))) (hfit : off + n ≤ S)
    (hc : ∀ i, i < n → w.cell? ⟨b, o' + i, none⟩ = some (.int .u8 (g i))) :
    ∃ w', (Builtin.copy_ #[56, 56] 3 #[.slice (some ⟨D, off, none⟩) n dc, .slice (some ⟨b, o', none⟩) n cap]).run Tryz.prog w = .ok (goInt n) w' ∧
      w'.rowIs D 5 S (fun i => .int .u8 (Mm.pt m off n g i)) ∧ w.grownBy w' (some D) := by
  obtain ⟨cur, hcur, hsz, hcc⟩ := hr
  have hrun := run_copy_row (P := Tryz.prog) w 56 56 3 5 D off n dc ⟨b, o', none⟩ n cap cur 5 (bytesL n g) Tryz.underlying56 info1 hcur (by rw [bytesL_len]; simp) (by
    intro j v hv
    obtain ⟨hj, rfl⟩ := bytesL_get hv
    rw [add_none]
    exact hc j hj) (by rw [bytesL_len]; omega) (bytesL_one n g)
  rw [bytesL_len] at hrun
  · refine ⟨_, hrun, ⟨_, setRow_heap w D _ _ _ _ hcur, ?_, ?_⟩, ⟨rfl, rfl, rfl, by simp [World.setRow], fun k hk hk2 => setRow_other w D k _ (fun e => hk2 (by rw [e]))⟩⟩
    · simp [bytesL_len]; omega
    · intro i hi
      have hci := hcc i hi
      simp only [List.getElem?_toArray, List.append_assoc]
      by_cases h1 : i < off
      · rw [List.getElem?_append_left (by simp; omega), List.getElem?_take, if_pos h1, Mm.pt_out (by omega)]
        simpa using hci
      · rw [List.getElem?_append_right (by simp; omega)]
        have hlen : (cur.toList.take off).length = off := by simp; omega
        rw [hlen]
        by_cases h2 : i < off + n
        · rw [List.getElem?_append_left (by rw [bytesL_len]; omega), bytesL_at g (by omega)]
          unfold Mm.pt; rw [if_pos (by omega)]
        · rw [List.getElem?_append_right (by rw [bytesL_len]; omega), bytesL_len, List.getElem?_drop, Mm.pt_out (by omega), show off + n + (i - off - n) = i by omega]
          simpa using hci

set_option maxRecDepth 40000 in
set_option maxHeartbeats 800000 in
theorem put_in (B D S n cap b o' : Nat) (m g : Nat → Int) (a : Nat) (w : World) (hm : IsM w B D S m) (hS : (S : Int) ≤ 1048576) (hn : 0 < n) (h1 : (4096 : Int) ≤ a) (h2 : a + n ≤ S) (hg : Mm.Fit g)
    (hc : ∀ i, i < n → w.cell? ⟨b, o' + i, none⟩ = some (.int .u8 (g i))) :
    Calls Tryz.prog 47 #[.pointer (some ⟨B, 0, none⟩), .int .u64 a, .slice (some ⟨b, o', none⟩) n cap] w fun e w' => e = .returned (.int .i64 0) ∧ IsM w' B D S (Mm.pt m a n g) ∧ w.grownBy w' (some D) := by
  have HC : Hid (∀ i, i < n → w.cell? ⟨b, o' + i, none⟩ = some (.int .u8 (g i))) := hc
  clear hc
  obtain ⟨w2, hrun, hr2, hg2⟩ := run_copy_bytes D S a n n b o' cap m g hm.row h2 HC.out
  go_enter Tryz.func47, Tryz.ntmps47
  go_wp2_with (go_at_call 67; refine (room_in B D S m a n _ hm hS hn h1 h2).mono ?_; rintro e w' ⟨rfl, rfl⟩)
  go_ret
  exact ⟨rfl, hm.put hg2 (by decide) hr2 (Mm.pt_fit hm.fit hg _ _), hg2⟩

set_option maxHeartbeats 800000 in
theorem put_none (B D S : Nat) (cap : Nat) (ao : Option Addr) (m : Nat → Int) (a : Int) (w : World) (hm : IsM w B D S m) :
    Calls Tryz.prog 47 #[.pointer (some ⟨B, 0, none⟩), .int .u64 a, .slice ao 0 cap] w fun e w' => e = .returned (.int .i64 0) ∧ w' = w := by
  have hrun := run_copy_none (P := Tryz.prog) w 56 56 3 5 none ao 0 0 0 cap Tryz.underlying56 info1 rfl
  go_enter Tryz.func47, Tryz.ntmps47
  go_wp2_with (go_at_call 67; refine (room_none B D S m a _ hm).mono ?_; rintro e w' ⟨rfl, rfl⟩)
  go_ret
  exact ⟨rfl, rfl⟩

end Go.Proofs.YtdklaeppcjopoaaGreatDoor

/- (*Mem).Get; gantryref0.EqBytes, CopyBytes; gantrylaw0.Bytes: contracts. -/
namespace Go.Proofs.YtdklaeppcjopoaaGreatDoor
open Go.RowKit
set_option linter.unusedVariables false

theorem grown_two {w w1 w2 : World} {b : Nat} (hg1 : w.grownBy w1 none) (hg2 : w1.grownBy w2 (some b)) (hb : w.heap.size ≤ b) : w.grownBy w2 none := by
  refine ⟨hg2.os.trans hg1.os, hg2.tape.trans hg1.tape, hg2.output.trans hg1.output, Nat.le_trans hg1.size hg2.size, fun k hk _ => ?_⟩
  have hne : some k ≠ some b := by intro e; injection e with e; omega
  exact (hg2.block k (Nat.lt_of_lt_of_le hk hg1.size) hne).trans (hg1.block k hk (by simp))

theorem Bs.at {w : World} {ao : Option Addr} {n : Nat} {g : Nat → Int} (h : Bs w ao n g) (hn : 0 < n) : ∃ b off, ao = some ⟨b, off, none⟩ ∧ ∀ i, i < n → w.cell? ⟨b, off + i, none⟩ = some (.int .u8 (g i)) := by
  rcases h with h | h
  · omega
  · exact h

theorem OwnB.cellAt {w : World} {base n b cap : Nat} {g : Nat → Int} (h : OwnB w base (.slice (some ⟨b, 0, none⟩) n cap) n g) {k : Nat} (hk : k < n) : w.cell? ⟨b, k, none⟩ = some (.int .u8 (g k)) :=
  (World.ownsRow.cellAt h k (by omega)).trans (bytesL_at g hk)

end Go.Proofs.YtdklaeppcjopoaaGreatDoor

/- form.bytes, gantryref3.Encode: contracts. -/
namespace Go.Proofs.YtdklaeppcjopoaaGreatDoor
open Go.RowKit
set_option linter.unusedVariables false

namespace Rc
/-- a form's bytes -/
def fb (f : FmV) (i : Nat) : Int :=
  if i = 0 then f.code % 256 else if i = 1 then f.a % 256 else if i = 2 then f.b % 256 else if i = 3 then f.c % 256 else Mm.by8 f.n (i - 4)
end Rc
theorem own8 {w : World} {base : Nat} (hb : base ≤ w.heap.size) (g : Nat → Int) (x0 x1 x2 x3 x4 x5 x6 x7 : Int) (h0 : x0 = g 0) (h1 : x1 = g 1) (h2 : x2 = g 2) (h3 : x3 = g 3) (h4 : x4 = g 4) (h5 : x5 = g 5) (h6 : x6 = g 6) (h7 : x7 = g 7) :
    OwnB (w.alloc (.cells #[.int .u8 x0, .int .u8 x1, .int .u8 x2, .int .u8 x3, .int .u8 x4, .int .u8 x5, .int .u8 x6, .int .u8 x7] 5)) base (.slice (some ⟨w.heap.size, 0, none⟩) 8 8) 8 g := by
  subst h0 h1 h2 h3 h4 h5 h6 h7
  exact World.ownsRow_lit w #[.int .u8 (g 0), .int .u8 (g 1), .int .u8 (g 2), .int .u8 (g 3), .int .u8 (g 4), .int .u8 (g 5), .int .u8 (g 6), .int .u8 (g 7)] 8 hb (by decide) (by rfl)
theorem size_alloc (w : World) (o : Obj) : (w.alloc o).heap.size = w.heap.size + 1 := by simp

set_option maxHeartbeats 8000000 in
theorem fbytes_any (f : FmV) (w : World) :
    Calls Tryz.prog 41 #[formv f] w fun e w' => ∃ T, e = .returned (.slice (some ⟨T, 0, none⟩) 8 8) ∧ OwnB w' w.heap.size (.slice (some ⟨T, 0, none⟩) 8 8) 8 (Rc.fb f) ∧ w.grownBy w' none := by
  unfold formv
  go_enter Tryz.func41, Tryz.ntmps41
  go_wp2
  go_returns
  refine ⟨w.heap.size + 1, rfl, ?_, grown_alloc2 _ _ _⟩
  rw [← size_alloc w]
  refine own8 (by rw [size_alloc]; omega) (Rc.fb f) _ _ _ _ _ _ _ _ rfl rfl rfl rfl ?_ rfl rfl rfl
  show _ = Mm.by8 f.n 0
  unfold Mm.by8
  simp

end Go.Proofs.YtdklaeppcjopoaaGreatDoor

/- A region that draws its order, whose head only reads and whose tail is forced: one walk by the cheap step. -/
namespace Go.Proofs.YtdklaeppcjopoaaGreatDoor
open Go.RowKit
set_option linter.unusedVariables false

theorem still_of_quiet {P : Program} {ops : Array Oper} {w : World} {Q : Act → Prop} : ∀ (l : List Oper) (a : Act), wpQuiet P ops (fun w' => w' = w) Q l a → wpStill P ops w Q l a
  | [], _, h => h
  | o :: rest, a, h => by
    unfold wpQuiet at h
    unfold wpStill
    split
    · rename_i hw
      rw [if_pos hw] at h
      obtain ⟨v, h1, h2⟩ := h
      have h3 := h1 w rfl
      have h4 := still_of_quiet rest _ h2
      unfold Oper.quietAt at h3
      unfold Oper.still
      generalize (execOp a.eval o).run P w = r at h3
      match r, h3 with
      | .ok (.value u) w', h3 => obtain ⟨e1, e2⟩ := h3; exact ⟨e1, by rw [e2]; exact h4⟩
      | .ok .skip w', h3 => obtain ⟨e1, e2⟩ := h3; exact ⟨e1, by rw [← e2]; exact h4⟩
      | .ok (.enter f args) w', h3 => obtain ⟨e1, e2⟩ := h3; exact ⟨e1, v, e2, h4⟩
    · rename_i hw
      rw [if_neg hw] at h
      exact still_of_quiet rest _ h

theorem tail_quiet {P : Program} {id : Nat} {Q : Exit → Act → World → Prop} {a : Act} {w : World} {l : List Oper} (n : Nat) (hm : P.follows .mixedOrders = true) (hB : Region.lexTailB .any l.toArray n = true)
    (h : wpQuiet P l.toArray (fun w' => w' = w.drew) (fun a' => wpList P l.toArray Q (l.drop n) a' w.drew) (l.take n) a) : (Code.region id l.toArray true).wp P Q a w :=
  tail_drew n hm hB (still_of_quiet _ _ h)

/-- a world that has grown out of W -/
structure Gw (W : World) where
  w : World
  h : W.grownBy w none

/-- A region that draws its order, whose operations read what stood in W or call what only makes new memory: one walk of the lexical order. -/
theorem region_grown {P : Program} {id : Nat} {Q : Exit → Act → World → Prop} {a : Act} {w : World} {l : List Oper} (hm : P.follows .mixedOrders = true) (hB : Region.lexB .any l.toArray = true)
    (h : wpQuiet P l.toArray (fun w' => ∃ x : Gw w, w' = x.w) (fun a' => ∀ w', (∃ x : Gw w, w' = x.w) → Q .normal a' w') l a) : (Code.region id l.toArray true).wp P Q a w :=
  wp_region_quiet (C := fun w' => ∃ x : Gw w, w' = x.w) hm hB ⟨⟨w.drew, grown_drew (World.grownBy.refl _ _)⟩, rfl⟩ (by simpa using h)
theorem Gw.call {P : Program} {f : FuncId} {args : Array Value} {W : World} {x : Gw W} {v : Value}
    (h : Calls P f args x.w fun e w' => e = .returned v ∧ x.w.grownBy w' none) : Calls P f args x.w fun e w'' => e = .returned v ∧ ∃ y : Gw W, w'' = y.w :=
  h.mono fun _ w'' ⟨he, hg⟩ => ⟨he, ⟨w'', grown_trans x.h hg⟩, rfl⟩

end Go.Proofs.YtdklaeppcjopoaaGreatDoor

/- risc.formOf: its contract. -/
namespace Go.Proofs.YtdklaeppcjopoaaGreatDoor
open Go.RowKit
set_option linter.unusedVariables false

namespace Rc
def fo (g : Nat → Int) : FmV := ⟨g 0, g 1, g 2, g 3, s32 (Mm.ld g 4 4)⟩
theorem s32_rng (u : Int) : -2147483648 ≤ s32 u ∧ s32 u < 2147483648 := by unfold s32; omega
theorem u32_ld {g : Nat → Int} (hg : Mm.Fit g) : bits .or .u32 (bits .or .u32 (bits .or .u32 (g 4 % 4294967296) (g 5 % 4294967296 * 256 % 4294967296)) (g 6 % 4294967296 * 65536 % 4294967296)) (g 7 % 4294967296 * 16777216 % 4294967296) = Mm.ld g 4 4 := by
  have h4 := hg 4
  have h5 := hg 5
  have h6 := hg 6
  have h7 := hg 7
  have e : Mm.ld g 4 4 = g 4 + g 5 * 2 ^ 8 + g 6 * 2 ^ 16 + g 7 * 2 ^ 24 := by
    show 0 + g 4 * 1 + g 5 * 256 + g 6 * 65536 + g 7 * 16777216 = _
    omega
  rw [e, show g 4 % 4294967296 = g 4 by omega, show g 5 % 4294967296 * 256 % 4294967296 = g 5 * 2 ^ 8 by omega, show g 6 % 4294967296 * 65536 % 4294967296 = g 6 * 2 ^ 16 by omega, show g 7 % 4294967296 * 16777216 % 4294967296 = g 7 * 2 ^ 24 by omega]
  have b : ((2 : Int) ^ IntKind.u32.bits) = 4294967296 := rfl
  have o1 : bits .or .u32 (g 4) (g 5 * 2 ^ 8) = g 4 + g 5 * 2 ^ 8 := Mm.or_high rfl (by omega) (by omega) (by omega) (by omega)
  have o2 : bits .or .u32 (g 4 + g 5 * 2 ^ 8) (g 6 * 2 ^ 16) = g 4 + g 5 * 2 ^ 8 + g 6 * 2 ^ 16 := Mm.or_high rfl (by omega) (by omega) (by omega) (by omega)
  have o3 : bits .or .u32 (g 4 + g 5 * 2 ^ 8 + g 6 * 2 ^ 16) (g 7 * 2 ^ 24) = g 4 + g 5 * 2 ^ 8 + g 6 * 2 ^ 16 + g 7 * 2 ^ 24 := Mm.or_high rfl (by omega) (by omega) (by omega) (by omega)
  rw [o1, o2, o3]
end Rc

theorem wrap64_byte {x : Int} (h1 : 0 ≤ x) (h2 : x < 256) : wrap64 x = x := by unfold wrap64; omega
theorem wrap_s32 (x : Int) : wrap64 (wrap32 x) = Rc.s32 x := by unfold wrap64 wrap32 Rc.s32; omega

set_option maxHeartbeats 8000000 in
theorem formOf_any (b off n cap : Nat) (g : Nat → Int) (w : World) (hn : 8 ≤ n) (hnc : n ≤ cap) (hg : Mm.Fit g) (hc : ∀ i, i < n → w.cell? ⟨b, off + i, none⟩ = some (.int .u8 (g i))) :
    Calls Tryz.prog 147 #[.slice (some ⟨b, off, none⟩) n cap] w fun e w' => e = .returned (formv (Rc.fo g)) ∧ w.grownBy w' none := by
  have hi : ∀ j : Int, j < 8 → j < (n : Int) := fun j h => by omega
  have l0 := hi 0 (by decide)
  have l1 := hi 1 (by decide)
  have l2 := hi 2 (by decide)
  have l3 := hi 3 (by decide)
  have l4 := hi 4 (by decide)
  have l5 := hi 5 (by decide)
  have l6 := hi 6 (by decide)
  have l7 := hi 7 (by decide)
  have c0 : w.cell? ⟨b, off, none⟩ = some (.int .u8 (g 0)) := hc 0 (by omega)
  have c1 := hc 1 (by omega)
  have c2 := hc 2 (by omega)
  have c3 := hc 3 (by omega)
  have c4 := hc 4 (by omega)
  have c5 := hc 5 (by omega)
  have c6 := hc 6 (by omega)
  have c7 := hc 7 (by omega)
  have d0 : (w.alloc (Obj.cells #[.int .i64 0, .int .i64 0, .int .i64 0, .int .i64 0, .int .i64 0] 93)).cell? ⟨b, off, none⟩ = some (.int .u8 (g 0)) := (World.grownBy_alloc w (Obj.cells #[.int .i64 0, .int .i64 0, .int .i64 0, .int .i64 0, .int .i64 0] 93) none).cell c0 (by simp)
  have d1 : (w.alloc (Obj.cells #[.int .i64 0, .int .i64 0, .int .i64 0, .int .i64 0, .int .i64 0] 93)).cell? ⟨b, off + 1, none⟩ = some (.int .u8 (g 1)) := (World.grownBy_alloc w (Obj.cells #[.int .i64 0, .int .i64 0, .int .i64 0, .int .i64 0, .int .i64 0] 93) none).cell c1 (by simp)
  have d2 : (w.alloc (Obj.cells #[.int .i64 0, .int .i64 0, .int .i64 0, .int .i64 0, .int .i64 0] 93)).cell? ⟨b, off + 2, none⟩ = some (.int .u8 (g 2)) := (World.grownBy_alloc w (Obj.cells #[.int .i64 0, .int .i64 0, .int .i64 0, .int .i64 0, .int .i64 0] 93) none).cell c2 (by simp)
  have d3 : (w.alloc (Obj.cells #[.int .i64 0, .int .i64 0, .int .i64 0, .int .i64 0, .int .i64 0] 93)).cell? ⟨b, off + 3, none⟩ = some (.int .u8 (g 3)) := (World.grownBy_alloc w (Obj.cells #[.int .i64 0, .int .i64 0, .int .i64 0, .int .i64 0, .int .i64 0] 93) none).cell c3 (by simp)
  have d4 : (w.alloc (Obj.cells #[.int .i64 0, .int .i64 0, .int .i64 0, .int .i64 0, .int .i64 0] 93)).cell? ⟨b, off + 4, none⟩ = some (.int .u8 (g 4)) := (World.grownBy_alloc w (Obj.cells #[.int .i64 0, .int .i64 0, .int .i64 0, .int .i64 0, .int .i64 0] 93) none).cell c4 (by simp)
  have d5 : (w.alloc (Obj.cells #[.int .i64 0, .int .i64 0, .int .i64 0, .int .i64 0, .int .i64 0] 93)).cell? ⟨b, off + 5, none⟩ = some (.int .u8 (g 5)) := (World.grownBy_alloc w (Obj.cells #[.int .i64 0, .int .i64 0, .int .i64 0, .int .i64 0, .int .i64 0] 93) none).cell c5 (by simp)
  have d6 : (w.alloc (Obj.cells #[.int .i64 0, .int .i64 0, .int .i64 0, .int .i64 0, .int .i64 0] 93)).cell? ⟨b, off + 6, none⟩ = some (.int .u8 (g 6)) := (World.grownBy_alloc w (Obj.cells #[.int .i64 0, .int .i64 0, .int .i64 0, .int .i64 0, .int .i64 0] 93) none).cell c6 (by simp)
  have d7 : (w.alloc (Obj.cells #[.int .i64 0, .int .i64 0, .int .i64 0, .int .i64 0, .int .i64 0] 93)).cell? ⟨b, off + 7, none⟩ = some (.int .u8 (g 7)) := (World.grownBy_alloc w (Obj.cells #[.int .i64 0, .int .i64 0, .int .i64 0, .int .i64 0, .int .i64 0] 93) none).cell c7 (by simp)
  clear hi hc
  go_enter Tryz.func147, Tryz.ntmps147
  go_wp2_with fail
  go_quiet (fail)
  rw [Rc.u32_ld hg]
  go_wp2_with fail
  refine tail_quiet 20 (by kernel_rfl) (by kernel_rfl) ?_
  simp only [List.take_succ_cons, List.take_zero, List.drop_succ_cons, List.drop_zero]
  repeat (go_big_quiet_step (fail))
  refine wpQuiet_nil ?_
  go_wp2
  go_returns
  obtain ⟨g0, g0'⟩ := hg 0
  obtain ⟨g1, g1'⟩ := hg 1
  obtain ⟨g2, g2'⟩ := hg 2
  obtain ⟨g3, g3'⟩ := hg 3
  refine ⟨?_, ?_⟩
  · unfold formv Rc.fo
    dsimp only
    rw [wrap64_byte g0 g0', wrap64_byte g1 g1', wrap64_byte g2 g2', wrap64_byte g3 g3', wrap_s32]
  · exact grown_two (grown_drewN (World.grownBy_alloc _ _ _) _) (grown_trans (grown_trans (grown_trans (grown_trans (grown_setCell _ _ _ _) (grown_setCell _ _ _ _)) (grown_setCell _ _ _ _)) (grown_setCell _ _ _ _)) (grown_setCell _ _ _ _)) (Nat.le_refl _)

end Go.Proofs.YtdklaeppcjopoaaGreatDoor

/- What eight bytes are told to be: plain; and how worlds grow. -/
namespace Go.Proofs.YtdklaeppcjopoaaGreatDoor
open Go.RowKit
set_option linter.unusedVariables false

theorem ga {w w1 : World} (h : w.grownBy w1 none) (o : Obj) : w.grownBy (w1.alloc o) none := grown_trans h (World.grownBy_alloc _ _ _)
theorem gs {w w1 : World} (h : w.grownBy w1 none) {b : Nat} (i : Nat) (v : Value) (hb : w.heap.size ≤ b) : w.grownBy (w1.setCell ⟨b, i, none⟩ v) none := grown_two h (grown_setCell _ _ _ _) hb
def zeroI : InV := ⟨0, 0, 0, 0, 0, 0, 0, 0, 0⟩
namespace Rc
/-- what eight bytes are told to be -/
def dv (g : Nat → Int) : InV := if okB g then rd g else zeroI
def de (g : Nat → Int) : Int := if okB g then 0 else 30
theorem dv_ok {g : Nat → Int} (h : okB g = true) : dv g = rd g := by unfold dv; rw [if_pos h]
theorem de_ok {g : Nat → Int} (h : okB g = true) : de g = 0 := by unfold de; rw [if_pos h]
theorem de_no {g : Nat → Int} (h : okB g = false) : de g = 30 := by unfold de; rw [if_neg (by simp [h])]
theorem rd_1 {g : Nat → Int} (h : g 0 = 4 ∨ g 0 = 7 ∨ g 0 = 8) : rd g = ⟨g 0, g 1, g 2, g 3, s32 (Mm.ld g 4 4) % 256, s32 (Mm.ld g 4 4) / 256, 0, 0, 0⟩ := by unfold rd; rw [if_pos h]
theorem rd_2 {g : Nat → Int} (h : g 0 = 11 ∨ g 0 = 13) : rd g = ⟨g 0, g 1, g 2, 0, g 3, 0, 0, s32 (Mm.ld g 4 4), 0⟩ := by unfold rd; rw [if_neg (by omega), if_pos h]
theorem rd_3 {g : Nat → Int} (h : ¬ (g 0 = 4 ∨ g 0 = 7 ∨ g 0 = 8)) (h' : ¬ (g 0 = 11 ∨ g 0 = 13)) : rd g = ⟨g 0, g 1, g 2, g 3, 0, 0, 0, s32 (Mm.ld g 4 4), 0⟩ := by unfold rd; rw [if_neg h, if_neg h']
end Rc

end Go.Proofs.YtdklaeppcjopoaaGreatDoor

/- An instruction that lies in a block of its own. -/
namespace Go.Proofs.YtdklaeppcjopoaaGreatDoor
open Go.RowKit
set_option linter.unusedVariables false

/-- the nine cells of block B hold the instruction v -/
structure InstAt (W : World) (B : Nat) (v : InV) : Prop where
  c0 : W.cell? ⟨B, 0, none⟩ = some (.int .i64 v.op)
  c1 : W.cell? ⟨B, 1, none⟩ = some (.int .i64 v.a)
  c2 : W.cell? ⟨B, 2, none⟩ = some (.int .i64 v.b)
  c3 : W.cell? ⟨B, 3, none⟩ = some (.int .i64 v.c)
  c4 : W.cell? ⟨B, 4, none⟩ = some (.int .i64 v.k)
  c5 : W.cell? ⟨B, 5, none⟩ = some (.int .i64 v.sub)
  c6 : W.cell? ⟨B, 6, none⟩ = some (.int .i64 v.scale)
  c7 : W.cell? ⟨B, 7, none⟩ = some (.int .i64 v.imm)
  c8 : W.cell? ⟨B, 8, none⟩ = some (.int .i64 v.label)
  fz : ∀ k, W.frozen? ⟨B, k, none⟩ = false

theorem InstAt.lt {W : World} {B : Nat} {v : InV} (h : InstAt W B v) : B < W.heap.size := World.block_lt_of_cell? _ _ h.c0
theorem InstAt.new (W : World) (v : InV) : InstAt (W.alloc (.cells #[.int .i64 v.op, .int .i64 v.a, .int .i64 v.b, .int .i64 v.c, .int .i64 v.k, .int .i64 v.sub, .int .i64 v.scale, .int .i64 v.imm, .int .i64 v.label] 34)) W.heap.size v := by
  constructor <;> intros <;> simp
theorem InstAt.kept {W W' : World} {B : Nat} {v : InV} {row : Option Nat} (h : InstAt W B v) (hg : W.grownBy W' row) (hne : some B ≠ row) : InstAt W' B v :=
  ⟨hg.cell h.c0 hne, hg.cell h.c1 hne, hg.cell h.c2 hne, hg.cell h.c3 hne, hg.cell h.c4 hne, hg.cell h.c5 hne, hg.cell h.c6 hne, hg.cell h.c7 hne, hg.cell h.c8 hne, fun k => (hg.frozen_far ⟨B, k, none⟩ h.lt hne).trans (h.fz k)⟩
theorem InstAt.below {W W' : World} {B N : Nat} {v : InV} (h : InstAt W B v) (hg : Below N W W') (hb : B < N) : InstAt W' B v :=
  ⟨(hg.cell (p := ⟨B, 0, none⟩) hb).trans h.c0, (hg.cell (p := ⟨B, 1, none⟩) hb).trans h.c1, (hg.cell (p := ⟨B, 2, none⟩) hb).trans h.c2, (hg.cell (p := ⟨B, 3, none⟩) hb).trans h.c3, (hg.cell (p := ⟨B, 4, none⟩) hb).trans h.c4, (hg.cell (p := ⟨B, 5, none⟩) hb).trans h.c5, (hg.cell (p := ⟨B, 6, none⟩) hb).trans h.c6, (hg.cell (p := ⟨B, 7, none⟩) hb).trans h.c7, (hg.cell (p := ⟨B, 8, none⟩) hb).trans h.c8, fun k => (hg.frozen (p := ⟨B, k, none⟩) hb).trans (h.fz k)⟩
theorem InstAt.drewN {W : World} {B : Nat} {v : InV} (h : InstAt W B v) (n : Nat) : InstAt (W.drewN n) B v := h.kept (grown_drewN (World.grownBy.refl _ none) n) (by simp)
theorem InstAt.set3 {W : World} {B : Nat} {v : InV} (h : InstAt W B v) (x : Int) : InstAt (W.setCell ⟨B, 3, none⟩ (.int .i64 x)) B { v with c := x } :=
  ⟨(World.cell?_setCell_other _ _ _ _ (by simp)).trans h.c0, (World.cell?_setCell_other _ _ _ _ (by simp)).trans h.c1, (World.cell?_setCell_other _ _ _ _ (by simp)).trans h.c2, World.cell?_setCell_same _ _ _ h.c3, (World.cell?_setCell_other _ _ _ _ (by simp)).trans h.c4, (World.cell?_setCell_other _ _ _ _ (by simp)).trans h.c5, (World.cell?_setCell_other _ _ _ _ (by simp)).trans h.c6, (World.cell?_setCell_other _ _ _ _ (by simp)).trans h.c7, (World.cell?_setCell_other _ _ _ _ (by simp)).trans h.c8, fun j => (World.frozen?_setCell _ _ _ _).trans (h.fz j)⟩
theorem InstAt.set4 {W : World} {B : Nat} {v : InV} (h : InstAt W B v) (x : Int) : InstAt (W.setCell ⟨B, 4, none⟩ (.int .i64 x)) B { v with k := x } :=
  ⟨(World.cell?_setCell_other _ _ _ _ (by simp)).trans h.c0, (World.cell?_setCell_other _ _ _ _ (by simp)).trans h.c1, (World.cell?_setCell_other _ _ _ _ (by simp)).trans h.c2, (World.cell?_setCell_other _ _ _ _ (by simp)).trans h.c3, World.cell?_setCell_same _ _ _ h.c4, (World.cell?_setCell_other _ _ _ _ (by simp)).trans h.c5, (World.cell?_setCell_other _ _ _ _ (by simp)).trans h.c6, (World.cell?_setCell_other _ _ _ _ (by simp)).trans h.c7, (World.cell?_setCell_other _ _ _ _ (by simp)).trans h.c8, fun j => (World.frozen?_setCell _ _ _ _).trans (h.fz j)⟩
theorem InstAt.set5 {W : World} {B : Nat} {v : InV} (h : InstAt W B v) (x : Int) : InstAt (W.setCell ⟨B, 5, none⟩ (.int .i64 x)) B { v with sub := x } :=
  ⟨(World.cell?_setCell_other _ _ _ _ (by simp)).trans h.c0, (World.cell?_setCell_other _ _ _ _ (by simp)).trans h.c1, (World.cell?_setCell_other _ _ _ _ (by simp)).trans h.c2, (World.cell?_setCell_other _ _ _ _ (by simp)).trans h.c3, (World.cell?_setCell_other _ _ _ _ (by simp)).trans h.c4, World.cell?_setCell_same _ _ _ h.c5, (World.cell?_setCell_other _ _ _ _ (by simp)).trans h.c6, (World.cell?_setCell_other _ _ _ _ (by simp)).trans h.c7, (World.cell?_setCell_other _ _ _ _ (by simp)).trans h.c8, fun j => (World.frozen?_setCell _ _ _ _).trans (h.fz j)⟩
theorem InstAt.set7 {W : World} {B : Nat} {v : InV} (h : InstAt W B v) (x : Int) : InstAt (W.setCell ⟨B, 7, none⟩ (.int .i64 x)) B { v with imm := x } :=
  ⟨(World.cell?_setCell_other _ _ _ _ (by simp)).trans h.c0, (World.cell?_setCell_other _ _ _ _ (by simp)).trans h.c1, (World.cell?_setCell_other _ _ _ _ (by simp)).trans h.c2, (World.cell?_setCell_other _ _ _ _ (by simp)).trans h.c3, (World.cell?_setCell_other _ _ _ _ (by simp)).trans h.c4, (World.cell?_setCell_other _ _ _ _ (by simp)).trans h.c5, (World.cell?_setCell_other _ _ _ _ (by simp)).trans h.c6, World.cell?_setCell_same _ _ _ h.c7, (World.cell?_setCell_other _ _ _ _ (by simp)).trans h.c8, fun j => (World.frozen?_setCell _ _ _ _).trans (h.fz j)⟩

end Go.Proofs.YtdklaeppcjopoaaGreatDoor

/- Instructions that came in: a slice of them, opened; bytes of one's own compared. -/
namespace Go.Proofs.YtdklaeppcjopoaaGreatDoor
open Go.RowKit
set_option linter.unusedVariables false

/-- the nine cells from o on hold the instruction v -/
structure InAt (w : World) (b o : Nat) (v : InV) : Prop where
  c0 : w.cell? ⟨b, o, none⟩ = some (.int .i64 v.op)
  c1 : w.cell? ⟨b, o + 1, none⟩ = some (.int .i64 v.a)
  c2 : w.cell? ⟨b, o + 2, none⟩ = some (.int .i64 v.b)
  c3 : w.cell? ⟨b, o + 3, none⟩ = some (.int .i64 v.c)
  c4 : w.cell? ⟨b, o + 4, none⟩ = some (.int .i64 v.k)
  c5 : w.cell? ⟨b, o + 5, none⟩ = some (.int .i64 v.sub)
  c6 : w.cell? ⟨b, o + 6, none⟩ = some (.int .i64 v.scale)
  c7 : w.cell? ⟨b, o + 7, none⟩ = some (.int .i64 v.imm)
  c8 : w.cell? ⟨b, o + 8, none⟩ = some (.int .i64 v.label)

theorem InAt.kept {w w' : World} {b o : Nat} {v : InV} {row : Option Nat} (h : InAt w b o v) (hg : w.grownBy w' row) (hne : some b ≠ row) : InAt w' b o v :=
  ⟨hg.cell h.c0 hne, hg.cell h.c1 hne, hg.cell h.c2 hne, hg.cell h.c3 hne, hg.cell h.c4 hne, hg.cell h.c5 hne, hg.cell h.c6 hne, hg.cell h.c7 hne, hg.cell h.c8 hne⟩
theorem InAt.below {w w' : World} {b o N : Nat} {v : InV} (h : InAt w b o v) (hg : Below N w w') (hb : b < N) : InAt w' b o v :=
  ⟨(hg.cell (p := ⟨b, o, none⟩) hb).trans h.c0, (hg.cell (p := ⟨b, o + 1, none⟩) hb).trans h.c1, (hg.cell (p := ⟨b, o + 2, none⟩) hb).trans h.c2, (hg.cell (p := ⟨b, o + 3, none⟩) hb).trans h.c3, (hg.cell (p := ⟨b, o + 4, none⟩) hb).trans h.c4, (hg.cell (p := ⟨b, o + 5, none⟩) hb).trans h.c5, (hg.cell (p := ⟨b, o + 6, none⟩) hb).trans h.c6, (hg.cell (p := ⟨b, o + 7, none⟩) hb).trans h.c7, (hg.cell (p := ⟨b, o + 8, none⟩) hb).trans h.c8⟩

end Go.Proofs.YtdklaeppcjopoaaGreatDoor

/- Rows of bytes that came in: opened. -/
namespace Go.Proofs.YtdklaeppcjopoaaGreatDoor
open Go.RowKit
set_option linter.unusedVariables false

/-- a slice of bytes that came in -/
structure BsIn (W : World) (ao : Option Addr) (len cap : Nat) (g : Nat → Int) : Prop where
  nil : ao = none → len = 0 ∧ cap = 0
  le : len ≤ cap
  max : cap ≤ maxLen
  fit : Mm.Fit g
  bs : Bs W ao len g
  lt : ∀ b off, 0 < len → ao = some ⟨b, off, none⟩ → b < W.heap.size

theorem BsIn.below {W W' : World} {ao : Option Addr} {n cap N : Nat} {g : Nat → Int} (h : BsIn W ao n cap g) (hg : Below N W W') (hN : N = W.heap.size) : BsIn W' ao n cap g := by
  refine ⟨h.nil, h.le, h.max, h.fit, ?_, fun b off h0 e => Nat.lt_of_lt_of_le (h.lt b off h0 e) hg.size⟩
  rcases h.bs with h0 | ⟨b, off, e, hc⟩
  · exact .inl h0
  · by_cases h0 : n = 0
    · exact .inl h0
    · exact .inr ⟨b, off, e, fun i hi => (hg.cell (p := ⟨b, off + i, none⟩) (by rw [hN]; exact h.lt b off (by omega) e)).trans (hc i hi)⟩
theorem BsIn.kept {W W' : World} {ao : Option Addr} {n cap : Nat} {g : Nat → Int} (h : BsIn W ao n cap g) (hg : W.grownBy W' none) : BsIn W' ao n cap g := by
  refine ⟨h.nil, h.le, h.max, h.fit, ?_, fun b off h0 e => Nat.lt_of_lt_of_le (h.lt b off h0 e) hg.size⟩
  rcases h.bs with h0 | ⟨b, off, e, hc⟩
  · exact .inl h0
  · exact .inr ⟨b, off, e, fun i hi => hg.cell (hc i hi) (by simp)⟩

theorem own_slice {w : World} {base n : Nat} {x : Value} {g : Nat → Int} (h : OwnB w base x n g) (hn : 0 < n) : ∃ T cap, x = .slice (some ⟨T, 0, none⟩) n cap ∧ n ≤ cap ∧ base ≤ T := by
  rcases h.2 with ⟨_, h0⟩ | ⟨T, cap, cur, rfl, hb, _, hc, _⟩
  · omega
  · exact ⟨T, cap, rfl, hc, hb⟩

theorem Bs.kept {w w' : World} {ao : Option Addr} {n : Nat} {g : Nat → Int} (h : Bs w ao n g) (hg : w.grownBy w' none) : Bs w' ao n g := by
  rcases h with h | ⟨b, off, e, hc⟩
  · exact .inl h
  · exact .inr ⟨b, off, e, fun i hi => hg.cell (hc i hi) (by simp)⟩

end Go.Proofs.YtdklaeppcjopoaaGreatDoor

/- Instructions of C64 by the page's rows, as plain functions on integers: which there are, their bytes, and back. No Go here. -/
namespace Go.Proofs.YtdklaeppcjopoaaGreatDoor
set_option linter.unusedVariables false

namespace Cc
/-- what a code's bytes are: the page's letters -/
def row (op : Int) : List Int :=
  if op = 1 then [110, 105] else if op = 3 ∨ op = 26 ∨ op = 27 ∨ op = 28 then [97] else if op = 4 ∨ op = 7 ∨ op = 8 then [97, 75, 83] else if op = 5 then [110, 75, 83, 105]
  else if op = 6 then [97, 75, 83, 52] else if op = 10 then [97, 99, 52] else if op = 11 ∨ op = 13 then [97, 75, 52] else if op = 12 ∨ op = 14 then [97, 99, 75, 52]
  else if op = 15 ∨ op = 18 then [97, 83] else if op = 16 then [97, 75] else if op = 17 then [110, 75, 105] else if op = 19 then [106, 105] else if op = 22 then [74, 105]
  else if op = 23 ∨ op = 25 ∨ op = 29 then [52] else if op = 24 then [45] else []
/-- does a letter of a code's row use a field? -/
def useL (op l c : Int) : Bool :=
  if l = 97 then c == 65 || (c == 66 && op != 7 && op != 27 && op != 28 && op != 18) else if l = 110 then c == 65 else if l = 99 then c == 67 else if l = 75 then c == 75
  else if l = 83 ∨ l = 74 then c == 83 else if l = 105 ∨ l = 52 then c == 73 else false
def usesB (op c : Int) : Bool := (row op).any fun l => useL op l c
/-- may Imm be an operand of a kind's operation? -/
def immB (sub k n : Int) : Bool :=
  Wd.intB k && Wd.hasBinB sub k && sub != 4 && sub != 5 && Rc.smallB n && (Rc.s32 (Wd.canon (if Wd.shB sub then 9 else k) (n % 18446744073709551616)) == n)
def binB (v : InV) : Bool :=
  Wd.hasBinB v.sub v.k && (if Wd.shB v.sub then v.b == 1 && v.a != 1 else if Wd.intB v.k && (v.sub == 4 || v.sub == 5) then v.a == 0 && v.b != 0 && v.b != 2 else true)
def sclB (v : InV) : Bool := v.scale == 1 || v.scale == 2 || v.scale == 4 || v.scale == 8 || (v.scale == 0 && v.c == 0 && v.op == 10)
def kindB (v : InV) : Bool :=
  if v.op = 4 then binB v else if v.op = 5 then immB v.sub v.k v.imm else if v.op = 6 then Wd.hasBinB v.sub v.k && !Wd.shB v.sub && (!Wd.intB v.k || (v.sub != 4 && v.sub != 5))
  else if v.op = 7 then Wd.hasUnB v.sub v.k else if v.op = 8 then Wd.numB v.sub && Wd.numB v.k else if v.op = 10 then sclB v else if v.op = 12 ∨ v.op = 14 then sclB v && Wd.wordB v.k
  else if v.op = 11 ∨ v.op = 13 ∨ v.op = 16 then Wd.wordB v.k else if v.op = 17 then immB 2 v.k v.imm else if v.op = 15 ∨ v.op = 18 ∨ v.op = 22 then Wd.cmpB v.sub
  else if v.op = 25 then decide (0 ≤ v.imm) else if v.op = 29 then decide (0 < v.imm) else true
/-- is it an instruction of C64? -/
def mayB (v : InV) : Bool :=
  !(row v.op).isEmpty && v.label == 0 && Rc.regB v.a && Rc.regB v.b && Rc.regB v.c && (usesB v.op 65 || v.a == 0) && (usesB v.op 66 || v.b == 0) && (usesB v.op 67 || (v.c == 0 && v.scale == 0)) &&
  (usesB v.op 75 || v.k == 0) && (usesB v.op 83 || v.sub == 0) && (usesB v.op 73 || v.imm == 0) && (v.op == 1 || Rc.smallB v.imm) && kindB v

/-- the size of Imm, and how many bytes a size has -/
def size (n : Int) : Int := if -128 ≤ n ∧ n < 128 then 0 else if -2147483648 ≤ n ∧ n < 2147483648 then 1 else 2
def cnt (s : Int) : Nat := if s = 0 then 1 else if s = 1 then 4 else 8
def lg (s : Int) : Int := if s = 1 then 0 else if s = 2 then 1 else if s = 4 then 2 else if s = 8 then 3 else 15
def low (n : Int) (c : Nat) : List Int := (List.range c).map (Mm.by8 (n % 18446744073709551616))
/-- a letter's bytes -/
def letB (v : InV) (l : Int) : List Int :=
  if l = 97 then [(16 * v.a + v.b) % 256] else if l = 110 then [(16 * v.a + size v.imm) % 256] else if l = 106 then [size v.imm % 256] else if l = 74 then [(16 * (v.sub - 11) + size v.imm) % 256]
  else if l = 99 then [(16 * v.c + lg v.scale) % 256] else if l = 75 then [v.k % 256] else if l = 83 then [v.sub % 256] else if l = 105 then low v.imm (cnt (size v.imm)) else if l = 52 then low v.imm 4 else []
/-- its bytes -/
def enc (v : InV) : List Int := v.op % 256 :: (row v.op).flatMap (letB v)

/-- a signed number of c bytes -/
def num (g : Nat → Int) (at' c : Nat) : Int :=
  if c = 1 then (Mm.ld g at' 1 + 128) % 256 - 128 else if c = 4 then Rc.s32 (Mm.ld g at' 4) else Wd.sg (Mm.ld g at' 8)
def scl (n : Int) : Int := if n = 0 then 1 else if n = 1 then 2 else if n = 2 then 4 else if n = 3 then 8 else if n = 15 then 0 else -1
/-- how many bytes a letter takes -/
def lcnt (l s : Int) : Nat := if l = 105 then cnt s else if l = 52 then 4 else 1
/-- what a letter's bytes say of the instruction -/
def lset (l : Int) (v : InV) (x y : Int) : InV :=
  if l = 97 then { v with a := x / 16, b := x % 16 } else if l = 110 then { v with a := x / 16 } else if l = 106 then v else if l = 74 then { v with sub := x / 16 + 11 }
  else if l = 99 then { v with c := x / 16, scale := scl (x % 16) } else if l = 75 then { v with k := x } else if l = 83 then { v with sub := x } else { v with imm := y }
/-- .. and of the size -/
def lsz (l s x : Int) : Int := if l = 110 ∨ l = 74 then x % 16 else if l = 106 then x else s
/-- bytes read by a row: the instruction, and how many they are; 0: they end too early; -1: a size that is none -/
def rdL (N : Nat) (g : Nat → Int) : List Int → InV → Int → Nat → InV × Int
  | [], v, _, p => (v, p)
  | l :: s, v, z, p =>
    if N < p + lcnt l z then (v, 0)
    else if 2 < lsz l z (g p) ∨ (lsz l z (g p) = 2 ∧ v.op ≠ 1) then (lset l v (g p) (num g p (lcnt l z)), -1)
    else rdL N g s (lset l v (g p) (num g p (lcnt l z))) (lsz l z (g p)) (p + lcnt l z)
/-- the letters that are read -/
def rrow (op : Int) : List Int := if op = 24 then [] else row op
def read (N : Nat) (g : Nat → Int) : InV × Int := rdL N g (rrow (g 0)) ⟨g 0, 0, 0, 0, 0, 0, 0, 0, 0⟩ 0 1
def zero : InV := ⟨0, 0, 0, 0, 0, 0, 0, 0, 0⟩
/-- are the first bytes just these? -/
def startsB (l : List Int) (g : Nat → Int) : Bool := decide (∀ i, i < l.length → g i = l.getD i 0)
/-- what any bytes are told to be: the instruction, how many, the error -/
def dec (N : Nat) (g : Nat → Int) : InV × Int × Int :=
  if N = 0 then (zero, 0, 41) else if (row (g 0)).isEmpty then (zero, 0, 40) else if (read N g).2 = 0 then (zero, 0, 41)
  else if (read N g).2 < 0 ∨ mayB (read N g).1 = false ∨ (((enc (read N g).1).length : Int) ≠ (read N g).2 ∨ startsB (enc (read N g).1) g = false) then (zero, 0, 40) else ((read N g).1, (read N g).2, 0)

/-- only the bytes that are read matter -/
theorem rd_congr {N : Nat} {g g' : Nat → Int} (h : ∀ i, i < N → g i = g' i) : ∀ (s : List Int) (v : InV) (z : Int) (p : Nat), rdL N g s v z p = rdL N g' s v z p := by
  intro s
  induction s with
  | nil => intro v z p; rfl
  | cons l s ih =>
    intro v z p
    unfold rdL
    by_cases h1 : N < p + lcnt l z
    · rw [if_pos h1, if_pos h1]
    · have hl : 1 ≤ lcnt l z := by unfold lcnt cnt; repeat' split
                                   all_goals omega
      have e1 : g p = g' p := h p (by omega)
      have e2 : num g p (lcnt l z) = num g' p (lcnt l z) := by
        have hc : ∀ c, c ≤ lcnt l z → Mm.ld g p c = Mm.ld g' p c := fun c hc => Mm.ld_congr fun i hi => h _ (by omega)
        unfold num
        by_cases c1 : lcnt l z = 1
        · rw [if_pos c1, if_pos c1, hc 1 (by omega)]
        · by_cases c4 : lcnt l z = 4
          · rw [if_neg c1, if_neg c1, if_pos c4, if_pos c4, hc 4 (by omega)]
          · have : lcnt l z = 8 := by
              revert c1 c4; unfold lcnt cnt; repeat' split
              all_goals omega
            rw [if_neg c1, if_neg c1, if_neg c4, if_neg c4, hc 8 (by omega)]
      rw [if_neg h1, if_neg h1, e1, e2, ih]

/-- the bytes of Imm say it -/
theorem num_low {g : Nat → Int} {p c : Nat} {n : Int} (hc : (c = 1 ∧ -128 ≤ n ∧ n < 128) ∨ (c = 4 ∧ -2147483648 ≤ n ∧ n < 2147483648) ∨ (c = 8 ∧ -9223372036854775808 ≤ n ∧ n ≤ 9223372036854775807)) (h : ∀ i, i < c → g (p + i) = Mm.by8 (n % 18446744073709551616) i) : num g p c = n := by
  have e : Mm.ld g p c = (n % 18446744073709551616) % 256 ^ c := by
    rw [← Mm.ld_by8]
    exact Mm.ld_congr fun i hi => by rw [h i hi, Nat.zero_add]
  unfold num
  rcases hc with ⟨rfl, h1, h2⟩ | ⟨rfl, h1, h2⟩ | ⟨rfl, h1, h2⟩
  · rw [if_pos rfl, e]
    have : (256 : Int) ^ 1 = 256 := rfl
    omega
  · rw [if_neg (by decide), if_pos rfl, e]
    have : (256 : Int) ^ 4 = 4294967296 := rfl
    unfold Rc.s32; omega
  · rw [if_neg (by decide), if_neg (by decide), e]
    have : (256 : Int) ^ 8 = 18446744073709551616 := rfl
    unfold Wd.sg; omega

end Cc
end Go.Proofs.YtdklaeppcjopoaaGreatDoor

/- Bytes that a call made itself, as a list. -/
namespace Go.Proofs.YtdklaeppcjopoaaGreatDoor
open Go.RowKit
set_option linter.unusedVariables false

/-- a row of the call's own whose bytes are l -/
def OwnL (w : World) (base : Nat) (v : Value) (l : List Int) : Prop := w.ownsRow base 5 1 v l.length (l.map (Value.int .u8))

theorem bytesL_list (l : List Int) : bytesL l.length (fun i => l.getD i 0) = l.map (Value.int .u8) := by
  refine List.ext_getElem? fun i => ?_
  by_cases hi : i < l.length
  · rw [bytesL_at _ hi, List.getElem?_map, List.getElem?_eq_getElem hi]
    simp [List.getD_eq_getElem?_getD, List.getElem?_eq_getElem hi]
  · rw [List.getElem?_eq_none (by rw [bytesL_len]; omega), List.getElem?_eq_none (by rw [List.length_map]; omega)]
theorem OwnL.toB {w : World} {base : Nat} {v : Value} {l : List Int} (h : OwnL w base v l) : OwnB w base v l.length (fun i => l.getD i 0) := by
  unfold OwnB; rw [bytesL_list]; exact h
theorem OwnB.toL {w : World} {base n : Nat} {v : Value} {g : Nat → Int} (h : OwnB w base v n g) : OwnL w base v ((List.range n).map g) := by
  unfold OwnL
  rw [List.length_map, List.length_range, List.map_map]
  exact h
theorem OwnL.nil (w : World) (base : Nat) : OwnL w base (.slice none 0 0) [] := World.ownsRow_nil _ _ _ _
theorem OwnL.kept {w w' : World} {base : Nat} {v : Value} {l : List Int} {row : Option Nat} (h : OwnL w base v l) (hg : w.grownBy w' row) (hne : v.ownBlock = none ∨ v.ownBlock ≠ row) : OwnL w' base v l := World.ownsRow.kept h hg hne
theorem OwnL.low {w : World} {base base' : Nat} {v : Value} {l : List Int} (h : OwnL w base v l) (hb : base' ≤ base) : OwnL w base' v l := World.ownsRow.mono h hb
/-- behind an append -/
theorem OwnL.app {w : World} {base : Nat} {v : Value} {l m : List Int} (h : w.ownsRow base 5 1 v (l.length + m.length) (l.map (Value.int .u8) ++ m.map (Value.int .u8))) : OwnL w base v (l ++ m) := by
  unfold OwnL
  rw [List.length_append, List.map_append]
  exact h
theorem OwnL.one {w : World} {base : Nat} {v : Value} {l : List Int} {x : Int} (h : w.ownsRow base 5 1 v (l.length + 1) (l.map (Value.int .u8) ++ [.int .u8 x])) : OwnL w base v (l ++ [x]) := OwnL.app (m := [x]) h
/-- a literal row -/
theorem OwnL.lit (w : World) (base : Nat) (l : List Int) (hb : base ≤ w.heap.size) (hm : l.length ≤ maxLen) : OwnL (w.alloc (.cells (l.map (Value.int .u8)).toArray 5)) base (.slice (some ⟨w.heap.size, 0, none⟩) l.length l.length) l := by
  have := World.ownsRow_lit (base := base) (e := 5) (size := 1) w (l.map (Value.int .u8)).toArray l.length hb hm (by simp)
  simpa [OwnL] using this

namespace Cc
theorem low_zero (n : Int) : low n 0 = [] := rfl
theorem low_succ (n : Int) (c : Nat) : low n (c + 1) = low n c ++ [Mm.by8 (n % 18446744073709551616) c] := by
  unfold low
  rw [List.range_succ, List.map_append]; rfl
theorem low_len (n : Int) (c : Nat) : (low n c).length = c := by unfold low; simp
end Cc
end Go.Proofs.YtdklaeppcjopoaaGreatDoor

/- gantryref3.May: its contract. -/
namespace Go.Proofs.YtdklaeppcjopoaaGreatDoor
open Go.RowKit
set_option linter.unusedVariables false

namespace Rc
def kindC (v : InV) : Bool :=
  cond (v.op == 4) (Wd.hasBinB v.sub v.k) (cond (v.op == 7) (Wd.hasUnB v.sub v.k) (cond (v.op == 8) (Wd.numB v.sub && Wd.numB v.k) (cond (v.op == 11) (Wd.wordB v.k) (cond (v.op == 13) (Wd.wordB v.k)
  (cond (v.op == 15) (decide (0 ≤ v.imm) && decide (v.imm < 16)) (cond (v.op == 25) (decide (0 ≤ v.imm)) (cond (v.op == 29) (decide (0 < v.imm)) true)))))))
theorem kind_c (v : InV) : kindB v = kindC v := by
  unfold kindB kindC
  simp only [Bool.cond_eq_ite, beq_iff_eq]
  repeat' split
  all_goals first | rfl | omega
end Rc
end Go.Proofs.YtdklaeppcjopoaaGreatDoor

/- What is reckoned of two ints: contracts. -/
namespace Go.Proofs.YtdklaeppcjopoaaGreatDoor
open Go.RowKit

theorem cmpI_tr {op a b : Int} : Wd.cmpI op a b = 0 ∨ Wd.cmpI op a b = 1 := by
  unfold Wd.cmpI Wd.tr; repeat' split
  all_goals simp

set_option maxHeartbeats 400000 in
theorem compareU_any (op a b : Int) (w : World) :
    Calls Tryz.prog 116 #[.int .i64 op, .int .u64 a, .int .u64 b] w fun e w' => e = .returned (.int .u64 (Wd.cmpI op a b)) ∧ w' = w := by
  go_enter Tryz.func116, Tryz.ntmps116
  go_wp2
  all_goals (go_ret; refine ⟨ret_u64 ?_, rfl⟩; simp only [beq_iff_eq, beq_eq_false_iff_ne] at *; unfold Wd.cmpI Wd.tr; simp_all <;> omega)

set_option maxHeartbeats 400000 in
theorem compareI_any (op a b : Int) (w : World) :
    Calls Tryz.prog 115 #[.int .i64 op, .int .i64 a, .int .i64 b] w fun e w' => e = .returned (.int .u64 (Wd.cmpI op a b)) ∧ w' = w := by
  go_enter Tryz.func115, Tryz.ntmps115
  go_wp2
  all_goals (go_ret; refine ⟨ret_u64 ?_, rfl⟩; simp only [beq_iff_eq, beq_eq_false_iff_ne] at *; unfold Wd.cmpI Wd.tr; simp_all <;> omega)

end Go.Proofs.YtdklaeppcjopoaaGreatDoor

/- binUnsigned, binSigned: contracts. -/
namespace Go.Proofs.YtdklaeppcjopoaaGreatDoor
open Go.RowKit
set_option linter.unusedVariables false

theorem ops16 {op : Int} (h1 : 1 ≤ op) (h2 : op ≤ 16) : op = 1 ∨ op = 2 ∨ op = 3 ∨ op = 4 ∨ op = 5 ∨ op = 6 ∨ op = 7 ∨ op = 8 ∨ op = 9 ∨ op = 10 ∨ op = 11 ∨ op = 12 ∨ op = 13 ∨ op = 14 ∨ op = 15 ∨ op = 16 := by omega

theorem wrap_rng (x : Int) : 0 ≤ IntKind.u64.wrap x ∧ IntKind.u64.wrap x < 18446744073709551616 := by rw [IntKind.wrap_u64]; omega
theorem land_lt {a b : Int} (ha : 0 ≤ a) (ha2 : a < 18446744073709551616) (hb : 0 ≤ b) (hb2 : b < 18446744073709551616) : ((a.toNat &&& b.toNat : Nat) : Int) < 18446744073709551616 := by
  have := Nat.and_lt_two_pow (n := 64) a.toNat (y := b.toNat) (by omega); omega
theorem lor_lt {a b : Int} (ha : 0 ≤ a) (ha2 : a < 18446744073709551616) (hb : 0 ≤ b) (hb2 : b < 18446744073709551616) : ((a.toNat ||| b.toNat : Nat) : Int) < 18446744073709551616 := by
  have := Nat.or_lt_two_pow (n := 64) (x := a.toNat) (y := b.toNat) (by omega) (by omega); omega
theorem lxor_lt {a b : Int} (ha : 0 ≤ a) (ha2 : a < 18446744073709551616) (hb : 0 ≤ b) (hb2 : b < 18446744073709551616) : ((a.toNat ^^^ b.toNat : Nat) : Int) < 18446744073709551616 := by
  have := Nat.xor_lt_two_pow (n := 64) (x := a.toNat) (y := b.toNat) (by omega) (by omega); omega
theorem div_rng {x y : Int} (hx : 0 ≤ x) (hx2 : x < 18446744073709551616) (hy : 0 < y) : 0 ≤ x / y ∧ x / y < 18446744073709551616 :=
  ⟨Int.ediv_nonneg hx (by omega), Int.lt_of_le_of_lt (Int.ediv_le_self y hx) hx2⟩
theorem mod_rng {x y : Int} (hx : 0 ≤ x) (hy2 : y < 18446744073709551616) (hy : 0 < y) : 0 ≤ x % y ∧ x % y < 18446744073709551616 :=
  ⟨Int.emod_nonneg x (by omega), Int.lt_trans (Int.emod_lt_of_pos x hy) hy2⟩
theorem shr_rng {x : Int} (n : Nat) (hx : 0 ≤ x) (hx2 : x < 18446744073709551616) : 0 ≤ x / 2 ^ n ∧ x / 2 ^ n < 18446744073709551616 :=
  div_rng hx hx2 (Int.pow_pos (by omega))

set_option maxHeartbeats 1000000 in
theorem binU_any (op k x y : Int) (w : World) (hx : 0 ≤ x) (hx2 : x < 18446744073709551616) (hy : 0 ≤ y) (hy2 : y < 18446744073709551616) (h1 : 1 ≤ op) (h2 : op ≤ 16) (hz : op = 4 ∨ op = 5 → 0 < y) :
    Calls Tryz.prog 93 #[.int .i64 op, .int .i64 k, .int .u64 x, .int .u64 y] w fun e w' => e = .returned (.int .u64 (Wd.bu op k x y)) ∧ w' = w := by
  have Hz : Hid (op = 4 ∨ op = 5 → 0 < y) := hz
  clear hz
  rcases ops16 h1 h2 with h | h | h | h | h | h | h | h | h | h | h | h | h | h | h | h
  all_goals
    subst h
    first | have hy0 : 0 < y := Hz.out (by decide) | skip
    clear Hz h1 h2
    go_enter Tryz.func93, Tryz.ntmps93
    go_wp2_with (first | (go_at_call 111; go_in) | (go_at_call 116; refine (compareU_any _ _ _ _).mono ?_; rintro e w' ⟨rfl, rfl⟩))
    first
      | (go_ret; exact ⟨rfl, rfl⟩)
      | (refine (canon_any _ _ _ ?_ ?_).mono ?_
         · first | exact (wrap_rng _).1 | exact (div_rng hx hx2 hy0).1 | exact (mod_rng hx hy2 hy0).1 | exact (shr_rng _ hx hx2).1 | (simp only [Go.u64_and _ _ hx hx2 hy hy2, Go.u64_or _ _ hx hx2 hy hy2, Go.u64_xor _ _ hx hx2 hy hy2]; omega)
         · first | exact (wrap_rng _).2 | exact (div_rng hx hx2 hy0).2 | exact (mod_rng hx hy2 hy0).2 | exact (shr_rng _ hx hx2).2 | (rw [Go.u64_and _ _ hx hx2 hy hy2]; exact land_lt hx hx2 hy hy2) | (rw [Go.u64_or _ _ hx hx2 hy hy2]; exact lor_lt hx hx2 hy hy2) | (rw [Go.u64_xor _ _ hx hx2 hy hy2]; exact lxor_lt hx hx2 hy hy2)
         · rintro e w' ⟨rfl, rfl⟩
           go_wp2
           go_ret
           refine ⟨ret_u64 ?_, rfl⟩
           simp only [Wd.bu1, Wd.bu2, Wd.bu3, Wd.bu4, Wd.bu5, Wd.bu6, Wd.bu7, Wd.bu8, Wd.bu9, Wd.bu10, Wd.canon_wrap, Go.u64_and _ _ hx hx2 hy hy2, Go.u64_or _ _ hx hx2 hy hy2, Go.u64_xor _ _ hx hx2 hy hy2])

theorem sg_wrap (x : Int) : wrap64 x = Wd.sg x := by unfold wrap64 Wd.sg; rfl
theorem sg_ne {y : Int} (h : 0 < y) (h2 : y < 18446744073709551616) : (wrap64 y == 0) = false := by rw [beq_eq_false_iff_ne]; unfold wrap64; omega
theorem canon_sg (k x : Int) : Wd.canon k (Wd.sg x) = Wd.canon k x := by
  rw [← Wd.canon_mod k x, ← Wd.canon_mod k (Wd.sg x)]; congr 1; unfold Wd.sg; omega

set_option maxHeartbeats 1000000 in
theorem binS_any (op k x y : Int) (w : World) (hx : 0 ≤ x) (hx2 : x < 18446744073709551616) (hy : 0 ≤ y) (hy2 : y < 18446744073709551616) (h1 : 1 ≤ op) (h2 : op ≤ 16) (hz : op = 4 ∨ op = 5 → 0 < y) :
    Calls Tryz.prog 92 #[.int .i64 op, .int .i64 k, .int .u64 x, .int .u64 y] w fun e w' => e = .returned (.int .u64 (Wd.bs op k x y)) ∧ w' = w := by
  have Hz : Hid (op = 4 ∨ op = 5 → 0 < y) := hz
  clear hz
  rcases ops16 h1 h2 with h | h | h | h | h | h | h | h | h | h | h | h | h | h | h | h
  all_goals
    subst h
    first | (have hy0 : 0 < y := Hz.out (by decide); have hy3 : ¬ wrap64 y = 0 := by have := sg_ne hy0 hy2; simpa using this) | skip
    clear Hz h1 h2
    go_enter Tryz.func92, Tryz.ntmps92
    go_wp2_with (first | (go_at_call 111; go_in) | (go_at_call 115; refine (compareI_any _ _ _ _).mono ?_; rintro e w' ⟨rfl, rfl⟩) | (go_at_call 93; refine (binU_any _ _ _ _ _ (by assumption) (by assumption) (by assumption) (by assumption) (by decide) (by decide) (by intro h; simp at h)).mono ?_; rintro e w' ⟨rfl, rfl⟩))
    first
      | (go_ret; refine ⟨ret_u64 ?_, rfl⟩; first | exact (Wd.bsu _ _ _ _ (by decide) (by decide) (by decide) (by decide)).symm | (rw [Wd.bsc _ _ _ _ (by decide)]; simp only [sg_wrap]) | (rw [Wd.bs10, IntKind.wrap_u64, sg_wrap]))
      | (refine (canon_any _ _ _ (wrap_rng _).1 (wrap_rng _).2).mono ?_
         rintro e w' ⟨rfl, rfl⟩
         go_wp2
         go_ret
         refine ⟨ret_u64 ?_, rfl⟩
         simp only [Wd.bs4, Wd.bs5, Wd.canon_wrap, canon_sg, sg_wrap])

end Go.Proofs.YtdklaeppcjopoaaGreatDoor

/- Bin of kinds that are no floats: its contract. -/
namespace Go.Proofs.YtdklaeppcjopoaaGreatDoor
open Go.RowKit
set_option linter.unusedVariables false

theorem ret_bin {a b c d : Int} (h : (c, d) = (a, b)) : Ending.returned (.tuple #[.int .u64 a, .int .i64 b]) = .returned (.tuple #[.int .u64 c, .int .i64 d]) := by cases h; rfl

theorem opcases (op : Int) : op = 9 ∨ op = 10 ∨ op = 4 ∨ op = 5 ∨ ((op == 9) = false ∧ (op == 10) = false ∧ (op == 4) = false ∧ (op == 5) = false) := by
  simp only [beq_eq_false_iff_ne]; omega

set_option maxHeartbeats 1000000 in
theorem binI_kind (op k x y : Int) (w : World) (hh : Wd.hasBinB op k = false) :
    Calls Tryz.prog 71 #[.int .i64 op, .int .i64 k, .int .u64 x, .int .u64 y] w fun e w' => e = .returned (.tuple #[.int .u64 0, .int .i64 10]) ∧ w' = w := by
  go_enter Tryz.func71, Tryz.ntmps71
  go_wp2_with (go_at_call 88; refine (hasBin_any _ _ _).mono ?_; rintro e w' ⟨rfl, rfl⟩)
  go_ret2
  exact ⟨rfl, rfl⟩

set_option maxHeartbeats 2000000 in
theorem binI_form (op k x y : Int) (w : World) (hx : 0 ≤ x) (hx2 : x < 18446744073709551616) (hy : 0 ≤ y) (hy2 : y < 18446744073709551616)
    (hh : Wd.hasBinB op k = true) (hf : Wd.isB k x = false ∨ Wd.isB (if Wd.shB op then 9 else k) y = false) :
    Calls Tryz.prog 71 #[.int .i64 op, .int .i64 k, .int .u64 x, .int .u64 y] w fun e w' => e = .returned (.tuple #[.int .u64 0, .int .i64 11]) ∧ w' = w := by
  cases hix : Wd.isB k x
  · clear hf
    rcases opcases op with h | h | h | h | ⟨h9, h10, h4, h5⟩
    all_goals
      first | subst h | skip
      go_enter Tryz.func71, Tryz.ntmps71
      go_wp2_with (first | (go_at_call 88; refine (hasBin_any _ _ _).mono ?_; rintro e w' ⟨rfl, rfl⟩) | (go_at_call 89; refine (is_any _ _ _ (by assumption) (by assumption)).mono ?_; rintro e w' ⟨rfl, rfl⟩))
      go_ret2
      exact ⟨rfl, rfl⟩
  · have Hf : Hid (Wd.isB (if Wd.shB op then 9 else k) y = false) := by rcases hf with h | h; { rw [hix] at h; cases h }; exact h
    clear hf
    rcases opcases op with h | h | h | h | ⟨h9, h10, h4, h5⟩
    all_goals
      first | subst h | skip
      first
        | have hf : Wd.isB 9 y = false := Hf.out
        | have hf : Wd.isB k y = false := Hf.out
        | have hf : Wd.isB k y = false := by have := Hf.out; unfold Wd.shB at this; rw [h9, h10] at this; exact this
      clear Hf
      go_enter Tryz.func71, Tryz.ntmps71
      go_wp2_with (first | (go_at_call 88; refine (hasBin_any _ _ _).mono ?_; rintro e w' ⟨rfl, rfl⟩) | (go_at_call 89; refine (is_any _ _ _ (by assumption) (by assumption)).mono ?_; rintro e w' ⟨rfl, rfl⟩))
      go_ret2
      exact ⟨rfl, rfl⟩

set_option maxHeartbeats 2000000 in
theorem binI_zero (op k x : Int) (w : World) (hx : 0 ≤ x) (hx2 : x < 18446744073709551616) (ho : op = 4 ∨ op = 5) (hk : (k == 10) = false)
    (hh : Wd.hasBinB op k = true) (hix : Wd.isB k x = true) (hiy : Wd.isB k 0 = true) :
    Calls Tryz.prog 71 #[.int .i64 op, .int .i64 k, .int .u64 x, .int .u64 0] w fun e w' => e = .returned (.tuple #[.int .u64 0, .int .i64 12]) ∧ w' = w := by
  rcases ho with h | h
  all_goals
    subst h
    go_enter Tryz.func71, Tryz.ntmps71
    go_wp2_with (first | (go_at_call 88; refine (hasBin_any _ _ _).mono ?_; rintro e w' ⟨rfl, rfl⟩) | (go_at_call 89; refine (is_any _ _ _ (by first | assumption | decide) (by first | assumption | decide)).mono ?_; rintro e w' ⟨rfl, rfl⟩))
    go_ret2
    exact ⟨rfl, rfl⟩

set_option maxHeartbeats 2000000 in
theorem binI_ok (op k x y : Int) (w : World) (hx : 0 ≤ x) (hx2 : x < 18446744073709551616) (hy : 0 ≤ y) (hy2 : y < 18446744073709551616) (hk : (k == 10) = false)
    (hh : Wd.hasBinB op k = true) (hix : Wd.isB k x = true) (hf : Wd.isB (if Wd.shB op then 9 else k) y = true) (hz : op = 4 ∨ op = 5 → 0 < y) :
    Calls Tryz.prog 71 #[.int .i64 op, .int .i64 k, .int .u64 x, .int .u64 y] w fun e w' => e = .returned (.tuple #[.int .u64 (if Wd.sgnB k then Wd.bs op k x y else Wd.bu op k x y), .int .i64 0]) ∧ w' = w := by
  have Hz : Hid (op = 4 ∨ op = 5 → 0 < y) := hz
  obtain ⟨ho1, ho2⟩ := Wd.hasBin_ops hh
  have hfc : (op = 9 ∨ op = 10) ∧ Wd.isB 9 y = true ∨ ((op == 9) = false ∧ (op == 10) = false) ∧ Wd.isB k y = true := by
    by_cases h : op = 9 ∨ op = 10
    · left; refine ⟨h, ?_⟩; have e : Wd.shB op = true := by rcases h with rfl | rfl <;> rfl
      rw [e] at hf; exact hf
    · right; have e : (op == 9) = false ∧ (op == 10) = false := by simp only [beq_eq_false_iff_ne]; omega
      refine ⟨e, ?_⟩; unfold Wd.shB at hf; rw [e.1, e.2] at hf; exact hf
  clear hf
  have hyc : y = 0 ∧ (op == 4) = false ∧ (op == 5) = false ∨ (y == 0) = false := by
    by_cases h : y = 0
    · left; refine ⟨h, ?_⟩; simp only [beq_eq_false_iff_ne]; constructor <;> (intro e; have := hz (by omega); omega)
    · right; simpa using h
  clear hz
  cases hs : Wd.sgnB k
  all_goals
    rcases hyc with ⟨rfl, h4, h5⟩ | hyc
    all_goals
      rcases hfc with ⟨rfl | rfl, hf⟩ | ⟨⟨h9, h10⟩, hf⟩
      all_goals
        go_enter Tryz.func71, Tryz.ntmps71
        go_wp2_with (first | (go_at_call 88; refine (hasBin_any _ _ _).mono ?_; rintro e w' ⟨rfl, rfl⟩) | (go_at_call 89; refine (is_any _ _ _ (by first | assumption | decide) (by first | assumption | decide)).mono ?_; rintro e w' ⟨rfl, rfl⟩) | (go_at_call 91; refine (signed_any _ _).mono ?_; rintro e w' ⟨rfl, rfl⟩) | (go_at_call 92; refine (binS_any _ _ _ _ _ (by assumption) (by assumption) (by first | assumption | decide) (by first | assumption | decide) (by first | assumption | decide) (by first | assumption | decide) Hz.out).mono ?_; rintro e w' ⟨rfl, rfl⟩) | (go_at_call 93; refine (binU_any _ _ _ _ _ (by assumption) (by assumption) (by first | assumption | decide) (by first | assumption | decide) (by first | assumption | decide) (by first | assumption | decide) Hz.out).mono ?_; rintro e w' ⟨rfl, rfl⟩))
        all_goals
          go_ret2
          exact ⟨ret_bin rfl, rfl⟩

theorem binI_any (op k x y : Int) (w : World) (hx : 0 ≤ x) (hx2 : x < 18446744073709551616) (hy : 0 ≤ y) (hy2 : y < 18446744073709551616) (hk : k ≠ 10) :
    Calls Tryz.prog 71 #[.int .i64 op, .int .i64 k, .int .u64 x, .int .u64 y] w fun e w' => e = .returned (.tuple #[.int .u64 (Wd.binI op k x y).1, .int .i64 (Wd.binI op k x y).2]) ∧ w' = w := by
  have hk' : (k == 10) = false := by simpa using hk
  unfold Wd.binI
  cases hh : Wd.hasBinB op k
  · rw [if_pos rfl]; exact binI_kind op k x y w hh
  · rw [if_neg (by simp)]
    by_cases hf : Wd.isB k x = false ∨ Wd.isB (if Wd.shB op then 9 else k) y = false
    · rw [if_pos hf]; exact binI_form op k x y w hx hx2 hy hy2 hh hf
    · rw [if_neg hf]
      have hix : Wd.isB k x = true := by cases h : Wd.isB k x; { exact absurd (.inl h) hf }; rfl
      have hiy : Wd.isB (if Wd.shB op then 9 else k) y = true := by cases h : Wd.isB (if Wd.shB op then 9 else k) y; { exact absurd (.inr h) hf }; rfl
      by_cases hz : y = 0 ∧ (op = 4 ∨ op = 5)
      · rw [if_pos hz]
        obtain ⟨rfl, ho⟩ := hz
        have hs : Wd.shB op = false := by rcases ho with rfl | rfl <;> rfl
        rw [hs] at hiy
        exact binI_zero op k x w hx hx2 ho hk' hh hix hiy
      · rw [if_neg hz]
        refine (binI_ok op k x y w hx hx2 hy hy2 hk' hh hix hiy (by intro h; have : y ≠ 0 := fun e => hz ⟨e, h⟩; omega)).mono ?_
        rintro e w' ⟨rfl, rfl⟩
        refine ⟨?_, rfl⟩
        split <;> rfl

end Go.Proofs.YtdklaeppcjopoaaGreatDoor

/- bin and wakes (of the laws), at kinds that are no floats: contracts. -/
namespace Go.Proofs.YtdklaeppcjopoaaGreatDoor
open Go.RowKit
set_option linter.unusedVariables false

namespace Wd
/-- the word alone -/
def bv (op k x y : Int) : Int := (binI op k x y).1
end Wd

end Go.Proofs.YtdklaeppcjopoaaGreatDoor
