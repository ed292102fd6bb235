/- Contracts and plain facts that the walks share, text by text: Plain, Leaf, Canon, RSmall, MBase, RcPure, LkPure, RcLeaf, RcA, RcDefs, MRead, MWrite, MRoom, MNew, MLoad, MStore, MGet, MHelp, RcF, RcT, RcG, RcR, RcQ, RcIns, RcRowsB, CcPure, CcOwn, RcD, Reckon, Bins, BinI, Bin, Un, FPlain. -/
import Derived.Test.YtkiockffejlnhaaGreatDoorRows
import Derived.WalkKit
import Derived.WalkSpells
import Derived.WalkLawsBesides
import Derived.Deep.QuietTactic
import Derived.BigQuiet
import Derived.Deep.OwnRows
import Derived.Below
import Derived.Handy
import Derived.StillTailTactics
import Derived.Deep.RegionWith
import Derived.OwnWalk
import Derived.Laws.CopyOwn
import Derived.Laws.AppendOwnNone
import Derived.Deep.AppendLies
import Derived.Deep.Slices
import Derived.OpenShut
import Derived.Deep.Onto
/- What words are, as plain functions on integers (words are the integers from 0 to 2^64 - 1): no Go here. -/
namespace Go.Proofs.YtkiockffejlnhaaGreatDoor
namespace Wd
def wid (k : Int) : Int := if k = 1 then 1 else if k = 2 ∨ k = 6 then 8 else if k = 3 ∨ k = 7 then 16 else if k = 4 ∨ k = 8 then 32 else if k = 5 ∨ k = 9 ∨ k = 10 ∨ k = 11 then 64 else 0
def sx (m h x : Int) : Int := ((x + h) % m - h) % 18446744073709551616
def canon (k x : Int) : Int :=
  if k = 1 then x % 2 else if k = 2 then sx 256 128 x else if k = 3 then sx 65536 32768 x else if k = 4 then sx 4294967296 2147483648 x
  else if k = 5 then x % 18446744073709551616 else if k = 6 then x % 256 else if k = 7 then x % 65536 else if k = 8 then x % 4294967296
  else if k = 9 then x % 18446744073709551616 else if k = 10 then x % 18446744073709551616 else if k = 11 then x % 18446744073709551616 else 0
def isB (k x : Int) : Bool := decide (1 ≤ k) && decide (k ≤ 11) && (canon k x == x)
def sgnB (k : Int) : Bool := decide (2 ≤ k) && decide (k ≤ 5)
def intB (k : Int) : Bool := decide (2 ≤ k) && decide (k ≤ 9)
def numB (k : Int) : Bool := decide (2 ≤ k) && decide (k ≤ 10)
def cmpB (op : Int) : Bool := decide (11 ≤ op) && decide (op ≤ 16)
def hasUnB (op k : Int) : Bool := (op == 1 && numB k) || (op == 2 && k == 1) || (op == 3 && intB k)
def hasBinB (op k : Int) : Bool :=
  (intB k && decide (1 ≤ op) && decide (op ≤ 16)) || (k == 10 && ((decide (1 ≤ op) && decide (op ≤ 4)) || cmpB op)) ||
  (k == 1 && (op == 6 || op == 7 || op == 8 || op == 11 || op == 12)) || (k == 11 && (op == 11 || op == 12))
def tr (b : Bool) : Int := if b then 1 else 0
def cmpI (op a b : Int) : Int :=
  if op = 11 then tr (a == b) else if op = 12 then tr (a != b) else if op = 13 then tr (decide (a < b)) else if op = 14 then tr (decide (a ≤ b))
  else if op = 15 then tr (decide (b < a)) else if op = 16 then tr (decide (b ≤ a)) else 0
def sg (x : Int) : Int := (x + 9223372036854775808) % 18446744073709551616 - 9223372036854775808
def bu (op k x y : Int) : Int :=
  if op = 1 then canon k (x + y) else if op = 2 then canon k (x - y) else if op = 3 then canon k (x * y) else if op = 4 then canon k (x / y) else if op = 5 then canon k (x % y)
  else if op = 6 then canon k (x.toNat &&& y.toNat : Nat) else if op = 7 then canon k (x.toNat ||| y.toNat : Nat) else if op = 8 then canon k (x.toNat ^^^ y.toNat : Nat)
  else if op = 9 then canon k (x * 2 ^ min y.toNat 64) else if op = 10 then canon k (x / 2 ^ min y.toNat 64) else cmpI op x y
def bs (op k x y : Int) : Int :=
  if op = 4 then canon k ((sg x).tdiv (sg y)) else if op = 5 then canon k ((sg x).tmod (sg y)) else if op = 10 then (sg x / 2 ^ min y.toNat 64) % 18446744073709551616
  else if 11 ≤ op then cmpI op (sg x) (sg y) else bu op k x y
def shB (op : Int) : Bool := op == 9 || op == 10
theorem kinds (k : Int) : k = 1 ∨ k = 2 ∨ k = 3 ∨ k = 4 ∨ k = 5 ∨ k = 6 ∨ k = 7 ∨ k = 8 ∨ k = 9 ∨ k = 10 ∨ k = 11 ∨ (k < 1 ∨ 11 < k) := by omega
theorem canon_out (k x : Int) (h : k < 1 ∨ 11 < k) : canon k x = 0 := by
  unfold canon
  rw [if_neg (by omega), if_neg (by omega), if_neg (by omega), if_neg (by omega), if_neg (by omega), if_neg (by omega), if_neg (by omega), if_neg (by omega), if_neg (by omega), if_neg (by omega), if_neg (by omega)]
theorem canon1 (x : Int) : canon 1 x = x % 2 := rfl
theorem canon2 (x : Int) : canon 2 x = ((x + 128) % 256 - 128) % 18446744073709551616 := rfl
theorem canon3 (x : Int) : canon 3 x = ((x + 32768) % 65536 - 32768) % 18446744073709551616 := rfl
theorem canon4 (x : Int) : canon 4 x = ((x + 2147483648) % 4294967296 - 2147483648) % 18446744073709551616 := rfl
theorem canon5 (x : Int) : canon 5 x = x % 18446744073709551616 := rfl
theorem canon6 (x : Int) : canon 6 x = x % 256 := rfl
theorem canon7 (x : Int) : canon 7 x = x % 65536 := rfl
theorem canon8 (x : Int) : canon 8 x = x % 4294967296 := rfl
theorem canon9 (x : Int) : canon 9 x = x % 18446744073709551616 := rfl
theorem canon10 (x : Int) : canon 10 x = x % 18446744073709551616 := rfl
theorem canon11 (x : Int) : canon 11 x = x % 18446744073709551616 := rfl
theorem canon_mod (k x : Int) : canon k (x % 18446744073709551616) = canon k x := by
  rcases kinds k with h | h | h | h | h | h | h | h | h | h | h | h <;> first | (subst h; simp only [canon1, canon2, canon3, canon4, canon5, canon6, canon7, canon8, canon9, canon10, canon11]; omega) | simp only [canon_out k _ h]
theorem canon_wrap (k x : Int) : canon k (IntKind.u64.wrap x) = canon k x := by rw [IntKind.wrap_u64, canon_mod]
theorem bu1 (k x y : Int) : bu 1 k x y = canon k (x + y) := rfl
theorem bu2 (k x y : Int) : bu 2 k x y = canon k (x - y) := rfl
theorem bu3 (k x y : Int) : bu 3 k x y = canon k (x * y) := rfl
theorem bu4 (k x y : Int) : bu 4 k x y = canon k (x / y) := rfl
theorem bu5 (k x y : Int) : bu 5 k x y = canon k (x % y) := rfl
theorem bu6 (k x y : Int) : bu 6 k x y = canon k (x.toNat &&& y.toNat : Nat) := rfl
theorem bu7 (k x y : Int) : bu 7 k x y = canon k (x.toNat ||| y.toNat : Nat) := rfl
theorem bu8 (k x y : Int) : bu 8 k x y = canon k (x.toNat ^^^ y.toNat : Nat) := rfl
theorem bu9 (k x y : Int) : bu 9 k x y = canon k (x * 2 ^ min y.toNat 64) := rfl
theorem bu10 (k x y : Int) : bu 10 k x y = canon k (x / 2 ^ min y.toNat 64) := rfl
theorem bs4 (k x y : Int) : bs 4 k x y = canon k ((sg x).tdiv (sg y)) := rfl
theorem bs5 (k x y : Int) : bs 5 k x y = canon k ((sg x).tmod (sg y)) := rfl
theorem bs10 (k x y : Int) : bs 10 k x y = (sg x / 2 ^ min y.toNat 64) % 18446744073709551616 := rfl
theorem bsc (op k x y : Int) (h : 11 ≤ op) : bs op k x y = cmpI op (sg x) (sg y) := by
  unfold bs; rw [if_neg (by omega), if_neg (by omega), if_neg (by omega), if_pos h]
theorem bsu (op k x y : Int) (h : op ≤ 10) (h4 : op ≠ 4) (h5 : op ≠ 5) (h10 : op ≠ 10) : bs op k x y = bu op k x y := by
  unfold bs; rw [if_neg h4, if_neg h5, if_neg h10, if_neg (by omega)]
def binI (op k x y : Int) : Int × Int :=
  if hasBinB op k = false then (0, 10) else if isB k x = false ∨ isB (if shB op then 9 else k) y = false then (0, 11)
  else if y = 0 ∧ (op = 4 ∨ op = 5) then (0, 12) else if sgnB k then (bs op k x y, 0) else (bu op k x y, 0)
theorem hasBin_ops {op k : Int} (h : hasBinB op k = true) : 1 ≤ op ∧ op ≤ 16 := by
  simp [hasBinB, intB, cmpB] at h; omega
end Wd
end Go.Proofs.YtkiockffejlnhaaGreatDoor

/- The small functions of package word, each a plain function of its arguments: contracts. -/
namespace Go.Proofs.YtkiockffejlnhaaGreatDoor
open Go.RowKit
theorem ret_i64 {a b : Int} (h : a = b) : Ending.returned (.int .i64 a) = .returned (.int .i64 b) := by rw [h]
theorem ret_u64 {a b : Int} (h : a = b) : Ending.returned (.int .u64 a) = .returned (.int .u64 b) := by rw [h]
theorem ret_bool {a b : Bool} (h : a = b) : Ending.returned (.bool a) = .returned (.bool b) := by rw [h]
set_option maxHeartbeats 400000 in
theorem width_any (k : Int) (w : World) :
    Calls Tryz.prog 114 #[.int .i64 k] w fun e w' => e = .returned (.int .i64 (Wd.wid k)) ∧ w' = w := by
  go_enter Tryz.func114, Tryz.ntmps114
  go_wp2
  all_goals (go_ret; refine ⟨ret_i64 ?_, rfl⟩; simp only [beq_iff_eq, beq_eq_false_iff_ne] at *; unfold Wd.wid; simp [*])
set_option maxHeartbeats 400000 in
theorem signed_any (k : Int) (w : World) :
    Calls Tryz.prog 134 #[.int .i64 k] w fun e w' => e = .returned (.bool (Wd.sgnB k)) ∧ w' = w := by
  go_enter Tryz.func134, Tryz.ntmps134
  go_wp2
  all_goals (go_ret; refine ⟨ret_bool ?_, rfl⟩; simp only [beq_iff_eq, beq_eq_false_iff_ne] at *; unfold Wd.sgnB; first | (rw [Bool.eq_iff_iff]; simp; omega))
set_option maxHeartbeats 400000 in
theorem int_any (k : Int) (w : World) :
    Calls Tryz.prog 146 #[.int .i64 k] w fun e w' => e = .returned (.bool (Wd.intB k)) ∧ w' = w := by
  go_enter Tryz.func146, Tryz.ntmps146
  go_wp2_with (go_at_call 134; refine (signed_any _ _).mono ?_; rintro e w' ⟨rfl, rfl⟩)
  all_goals (go_ret; refine ⟨ret_bool ?_, rfl⟩; simp only [beq_iff_eq, beq_eq_false_iff_ne] at *; simp only [Wd.intB, Wd.sgnB]; first | (rw [Bool.eq_iff_iff]; simp; omega))
set_option maxHeartbeats 400000 in
theorem number_any (k : Int) (w : World) :
    Calls Tryz.prog 139 #[.int .i64 k] w fun e w' => e = .returned (.bool (Wd.numB k)) ∧ w' = w := by
  go_enter Tryz.func139, Tryz.ntmps139
  go_wp2_with (go_at_call 146; refine (int_any _ _).mono ?_; rintro e w' ⟨rfl, rfl⟩)
  all_goals (go_ret; refine ⟨ret_bool ?_, rfl⟩; simp only [Wd.intB, Wd.numB] at *; first | (rw [Bool.eq_iff_iff]; simp at *; omega))
set_option maxHeartbeats 400000 in
theorem compares_any (k : Int) (w : World) :
    Calls Tryz.prog 145 #[.int .i64 k] w fun e w' => e = .returned (.bool (Wd.cmpB k)) ∧ w' = w := by
  go_enter Tryz.func145, Tryz.ntmps145
  go_wp2
  all_goals (go_ret; refine ⟨ret_bool ?_, rfl⟩; simp only [Wd.cmpB] at *; first | (rw [Bool.eq_iff_iff]; simp at *; omega))
set_option maxHeartbeats 400000 in
theorem hasUn_any (op k : Int) (w : World) :
    Calls Tryz.prog 137 #[.int .i64 op, .int .i64 k] w fun e w' => e = .returned (.bool (Wd.hasUnB op k)) ∧ w' = w := by
  go_enter Tryz.func137, Tryz.ntmps137
  go_wp2_with (go_at_call 146; refine (int_any _ _).mono ?_; rintro e w' ⟨rfl, rfl⟩)
  all_goals (go_ret; refine ⟨ret_bool ?_, rfl⟩; simp only [Wd.hasUnB, Wd.intB, Wd.numB] at *; first | (rw [Bool.eq_iff_iff]; simp at *; omega))
set_option maxHeartbeats 400000 in
theorem hasBin_any (op k : Int) (w : World) :
    Calls Tryz.prog 131 #[.int .i64 op, .int .i64 k] w fun e w' => e = .returned (.bool (Wd.hasBinB op k)) ∧ w' = w := by
  go_enter Tryz.func131, Tryz.ntmps131
  go_wp2_with (first | (go_at_call 146; refine (int_any _ _).mono ?_; rintro e w' ⟨rfl, rfl⟩) | (go_at_call 145; refine (compares_any _ _).mono ?_; rintro e w' ⟨rfl, rfl⟩))
  all_goals (go_ret; refine ⟨ret_bool ?_, rfl⟩; simp only [Wd.hasBinB, Wd.intB, Wd.cmpB] at *; first | (rw [Bool.eq_iff_iff]; simp at *; omega))
end Go.Proofs.YtkiockffejlnhaaGreatDoor

/- Canon, Is, Bytes and the comparisons of package word: contracts. -/
namespace Go.Proofs.YtkiockffejlnhaaGreatDoor
open Go.RowKit
set_option maxHeartbeats 400000 in
theorem canon_any (k x : Int) (w : World) (hx : 0 ≤ x) (hx2 : x < 18446744073709551616) :
    Calls Tryz.prog 123 #[.int .i64 k, .int .u64 x] w fun e w' => e = .returned (.int .u64 (Wd.canon k x)) ∧ w' = w := by
  rcases Wd.kinds k with h | h | h | h | h | h | h | h | h | h | h | (h | h)
  all_goals
    first | subst h | skip
    go_enter Tryz.func123, Tryz.ntmps123
    go_wp2
    go_ret
    refine ⟨ret_u64 ?_, rfl⟩
    first
      | (simp only [Wd.canon1, Wd.canon2, Wd.canon3, Wd.canon4, Wd.canon5, Wd.canon6, Wd.canon7, Wd.canon8, Wd.canon9, Wd.canon10, Wd.canon11, IntKind.wrap_u64, wrap64]; omega)
      | exact (Wd.canon_out k x (by omega)).symm
set_option maxHeartbeats 400000 in
theorem is_any (k x : Int) (w : World) (hx : 0 ≤ x) (hx2 : x < 18446744073709551616) :
    Calls Tryz.prog 132 #[.int .i64 k, .int .u64 x] w fun e w' => e = .returned (.bool (Wd.isB k x)) ∧ w' = w := by
  by_cases hk : 1 ≤ k ∧ k ≤ 11
  · have hw : 0 < Wd.wid k := by unfold Wd.wid; repeat' split
                                 all_goals omega
    have hi : Wd.isB k x = (Wd.canon k x == x) := by simp [Wd.isB, hk]
    have Hi : Hid (_ = _) := hi
    clear hi hk
    go_enter Tryz.func132, Tryz.ntmps132
    go_wp2_with (first | (go_at_call 114; refine (width_any _ _).mono ?_; rintro e w' ⟨rfl, rfl⟩) | (go_at_call 123; refine (canon_any _ _ _ (by assumption) (by assumption)).mono ?_; rintro e w' ⟨rfl, rfl⟩))
    go_ret
    exact ⟨ret_bool Hi.out.symm, rfl⟩
  · have hw : ¬ 0 < Wd.wid k := by unfold Wd.wid; repeat' split
                                   all_goals omega
    have hi : Wd.isB k x = false := by unfold Wd.isB; rw [Bool.and_eq_false_iff]; left; simp; omega
    have Hi : Hid (_ = _) := hi
    clear hi hk
    go_enter Tryz.func132, Tryz.ntmps132
    go_wp2_with (first | (go_at_call 114; refine (width_any _ _).mono ?_; rintro e w' ⟨rfl, rfl⟩) | (go_at_call 123; refine (canon_any _ _ _ (by assumption) (by assumption)).mono ?_; rintro e w' ⟨rfl, rfl⟩))
    go_ret
    exact ⟨ret_bool Hi.out.symm, rfl⟩
end Go.Proofs.YtkiockffejlnhaaGreatDoor

/- The small functions of the page's own words (package gantryref1), and word.Bytes: contracts, by the same plain functions as package word's. -/
namespace Go.Proofs.YtkiockffejlnhaaGreatDoor
open Go.RowKit
set_option linter.unusedVariables false
namespace Wd
def by' (k : Int) : Int := (wid k + 7) / 8
end Wd
namespace Wd
def wordB (k : Int) : Bool := decide (1 ≤ k) && decide (k ≤ 11)
end Wd
set_option maxHeartbeats 400000 in
theorem rword_any (k : Int) (w : World) :
    Calls Tryz.prog 101 #[.int .i64 k] w fun e w' => e = .returned (.bool (Wd.wordB k)) ∧ w' = w := by
  go_enter Tryz.func101, Tryz.ntmps101
  go_wp2
  all_goals (go_ret; refine ⟨ret_bool ?_, rfl⟩; simp only [Wd.wordB] at *; first | (rw [Bool.eq_iff_iff]; simp at *; omega))
set_option maxHeartbeats 400000 in
theorem rcanon_any (k x : Int) (w : World) (hx : 0 ≤ x) (hx2 : x < 18446744073709551616) :
    Calls Tryz.prog 129 #[.int .i64 k, .int .u64 x] w fun e w' => e = .returned (.int .u64 (Wd.canon k x)) ∧ w' = w := by
  rcases Wd.kinds k with h | h | h | h | h | h | h | h | h | h | h | h
  all_goals first
    | (subst h
       go_enter Tryz.func129, Tryz.ntmps129
       go_wp2
       go_ret
       refine ⟨ret_u64 ?_, rfl⟩
       simp only [Wd.canon1, Wd.canon2, Wd.canon3, Wd.canon4, Wd.canon5, Wd.canon6, Wd.canon7, Wd.canon8, Wd.canon9, Wd.canon10, Wd.canon11, IntKind.wrap_u64, wrap64]; omega)
    | (have hw : Wd.wordB k = false := by unfold Wd.wordB; simp; omega
       have Hz : Hid (Wd.canon k x = 0) := Wd.canon_out k x h
       clear h
       go_enter Tryz.func129, Tryz.ntmps129
       go_wp2_with (go_at_call 101; refine (rword_any _ _).mono ?_; rintro e w' ⟨rfl, rfl⟩)
       go_ret
       exact ⟨ret_u64 Hz.out.symm, rfl⟩)
set_option maxHeartbeats 400000 in
theorem rint_any (k : Int) (w : World) :
    Calls Tryz.prog 106 #[.int .i64 k] w fun e w' => e = .returned (.bool (Wd.intB k)) ∧ w' = w := by
  go_enter Tryz.func106, Tryz.ntmps106
  go_wp2
  all_goals (go_ret; refine ⟨ret_bool ?_, rfl⟩; simp only [Wd.intB] at *; first | (rw [Bool.eq_iff_iff]; simp at *; omega))
set_option maxHeartbeats 400000 in
theorem rshift_any (k : Int) (w : World) :
    Calls Tryz.prog 105 #[.int .i64 k] w fun e w' => e = .returned (.bool (Wd.shB k)) ∧ w' = w := by
  go_enter Tryz.func105, Tryz.ntmps105
  go_wp2
  all_goals (go_ret; refine ⟨ret_bool ?_, rfl⟩; unfold Wd.shB; first | rfl | (simp_all; done) | (rw [Bool.eq_iff_iff]; simp at *; omega))
set_option maxHeartbeats 400000 in
theorem rhasUn_any (op k : Int) (w : World) :
    Calls Tryz.prog 99 #[.int .i64 op, .int .i64 k] w fun e w' => e = .returned (.bool (Wd.hasUnB op k)) ∧ w' = w := by
  go_enter Tryz.func99, Tryz.ntmps99
  go_wp2_with (go_at_call 106; refine (rint_any _ _).mono ?_; rintro e w' ⟨rfl, rfl⟩)
  all_goals (go_ret; refine ⟨ret_bool ?_, rfl⟩; simp only [Wd.hasUnB, Wd.intB, Wd.numB] at *; first | (rw [Bool.eq_iff_iff]; simp at *; omega))
set_option maxHeartbeats 1000000 in
theorem rhasBin_any (op k : Int) (w : World) :
    Calls Tryz.prog 98 #[.int .i64 op, .int .i64 k] w fun e w' => e = .returned (.bool (Wd.hasBinB op k)) ∧ w' = w := by
  go_enter Tryz.func98, Tryz.ntmps98
  go_wp2_with (go_at_call 106; refine (rint_any _ _).mono ?_; rintro e w' ⟨rfl, rfl⟩)
  all_goals (go_ret; refine ⟨ret_bool ?_, rfl⟩; simp only [Wd.hasBinB, Wd.intB, Wd.cmpB] at *; first | (rw [Bool.eq_iff_iff]; simp at *; omega))
set_option maxHeartbeats 1000000 in
theorem rhasConv_any (k t : Int) (w : World) :
    Calls Tryz.prog 100 #[.int .i64 k, .int .i64 t] w fun e w' => e = .returned (.bool (Wd.numB k && Wd.numB t)) ∧ w' = w := by
  go_enter Tryz.func100, Tryz.ntmps100
  go_wp2_with (go_at_call 106; refine (rint_any _ _).mono ?_; rintro e w' ⟨rfl, rfl⟩)
  all_goals (go_ret; refine ⟨ret_bool ?_, rfl⟩; simp only [Wd.intB, Wd.numB] at *; first | (rw [Bool.eq_iff_iff]; simp at *; omega))
end Go.Proofs.YtkiockffejlnhaaGreatDoor

/- Bytes and memories: what a row of bytes holds, as a function of the index; what a number's bytes are. No Go here. -/
namespace Go.Proofs.YtkiockffejlnhaaGreatDoor
open Go.RowKit
set_option linter.unusedVariables false
namespace Mm
def ld (m : Nat → Int) (a : Nat) : Nat → Int
  | 0 => 0
  | n + 1 => ld m a n + m (a + n) * 256 ^ n
def by8 (x : Int) (i : Nat) : Int := x / 256 ^ i % 256
def pt (m : Nat → Int) (a n : Nat) (g : Nat → Int) : Nat → Int := fun i => if a ≤ i ∧ i < a + n then g (i - a) else m i
def Fit (m : Nat → Int) : Prop := ∀ i, 0 ≤ m i ∧ m i < 256
theorem mod_mul (x a b : Int) (ha : 0 < a) (hb : 0 < b) : x % (a * b) = x % a + a * (x / a % b) := by
  have h1 := Int.mul_ediv_add_emod x a
  have h2 := Int.mul_ediv_add_emod (x / a) b
  have h3 := Int.emod_nonneg x (show a ≠ 0 by omega)
  have h4 := Int.emod_lt_of_pos x ha
  have h5 := Int.emod_nonneg (x / a) (show b ≠ 0 by omega)
  have h6 := Int.emod_lt_of_pos (x / a) hb
  have e : x = (x % a + a * (x / a % b)) + a * b * (x / a / b) := by
    have : a * (x / a) = a * (b * (x / a / b)) + a * (x / a % b) := by rw [← Int.mul_add, h2]
    rw [Int.mul_assoc]; omega
  have k1 : 0 ≤ a * (x / a % b) := Int.mul_nonneg (by omega) h5
  have k2 : a * (x / a % b) ≤ a * (b - 1) := Int.mul_le_mul_of_nonneg_left (by omega) (by omega)
  rw [Int.mul_sub, Int.mul_one] at k2
  have k3 : (x % a + a * (x / a % b) + a * b * (x / a / b)) % (a * b) = x % a + a * (x / a % b) := by
    rw [Int.add_mul_emod_self_left]
    exact Int.emod_eq_of_lt (by omega) (by omega)
  rw [← e] at k3
  exact k3
theorem pow_pos (n : Nat) : (0 : Int) < 256 ^ n := Int.pow_pos (by omega)
theorem ld_succ (m : Nat → Int) (a n : Nat) : ld m a (n + 1) = ld m a n + m (a + n) * 256 ^ n := rfl
theorem ld_rng {m : Nat → Int} (hm : Fit m) (a n : Nat) : 0 ≤ ld m a n ∧ ld m a n < 256 ^ n := by
  induction n with
  | zero => simp [ld]
  | succ n ih =>
    have hp := pow_pos n
    have h := hm (a + n)
    rw [ld_succ, Int.pow_succ]
    have h1 : 0 ≤ m (a + n) * 256 ^ n := Int.mul_nonneg h.1 (by omega)
    have h2 : m (a + n) * 256 ^ n ≤ 255 * 256 ^ n := Int.mul_le_mul_of_nonneg_right (by omega) (by omega)
    omega
theorem ld_congr {m m' : Nat → Int} {a a' n : Nat} (h : ∀ i, i < n → m (a + i) = m' (a' + i)) : ld m a n = ld m' a' n := by
  induction n with
  | zero => rfl
  | succ n ih => rw [ld_succ, ld_succ, ih (fun i hi => h i (by omega)), h n (by omega)]
theorem by8_rng (x : Int) (i : Nat) : 0 ≤ by8 x i ∧ by8 x i < 256 := by unfold by8; omega
theorem ld_by8 (x : Int) (n : Nat) : ld (by8 x) 0 n = x % 256 ^ n := by
  induction n with
  | zero => simp [ld, Int.emod_one]
  | succ n ih =>
    rw [ld_succ, ih, Nat.zero_add, Int.pow_succ, mod_mul _ _ _ (pow_pos n) (by omega)]
    unfold by8
    rw [Int.mul_comm]
theorem by8_mod (x : Int) (i n : Nat) (h : i < n) : by8 (x % 256 ^ n) i = by8 x i := by
  unfold by8
  obtain ⟨d, rfl⟩ : ∃ d, n = i + 1 + d := ⟨n - (i + 1), by omega⟩
  rw [Int.pow_add, Int.pow_succ]
  have hp := pow_pos i
  have hd := pow_pos d
  rw [show (256 : Int) ^ i * 256 * 256 ^ d = 256 ^ i * (256 * 256 ^ d) by rw [Int.mul_assoc]]
  rw [mod_mul _ _ _ hp (by omega), Int.add_mul_ediv_left _ _ (by omega), Int.ediv_eq_zero_of_lt (Int.emod_nonneg _ (by omega)) (Int.emod_lt_of_pos _ hp), Int.zero_add,
    Int.emod_emod_of_dvd _ ⟨256 ^ d, rfl⟩]
end Mm
namespace Mm
theorem toNat_small {n : Nat} {a : Nat} (h : a < 2 ^ n) : (BitVec.ofInt n (a : Int)).toNat = a := by
  rw [BitVec.toNat_ofInt]
  have e : (a : Int) % ((2 ^ n : Nat) : Int) = ((a % 2 ^ n : Nat) : Int) := by rw [Int.natCast_emod]
  rw [e, Int.toNat_natCast, Nat.mod_eq_of_lt h]
theorem wrap_small {k : IntKind} (hk : k.signed = false) {a : Nat} (h : a < 2 ^ k.bits) : k.wrap (a : Int) = a := by
  unfold IntKind.wrap
  have e : (a : Int) % 2 ^ k.bits = (a : Int) := by
    refine Int.emod_eq_of_lt (Int.natCast_nonneg _) ?_
    have : ((a : Nat) : Int) < ((2 ^ k.bits : Nat) : Int) := by exact_mod_cast h
    simpa using this
  simp [hk, e]
theorem bits_or {k : IntKind} (hk : k.signed = false) {a c : Nat} (ha : a < 2 ^ k.bits) (hc : c < 2 ^ k.bits) : bits .or k (a : Int) (c : Int) = ((a ||| c : Nat) : Int) := by
  show k.wrap ((BitVec.ofInt k.bits (a : Int) ||| BitVec.ofInt k.bits (c : Int)).toNat : Int) = _
  rw [BitVec.toNat_or, toNat_small ha, toNat_small hc]
  exact wrap_small hk (Nat.or_lt_two_pow ha hc)
theorem or_high {k : IntKind} (hk : k.signed = false) {x y : Int} {j : Nat} (x1 : 0 ≤ x) (x2 : x < 2 ^ j) (y1 : 0 ≤ y) (h : x + y * 2 ^ j < 2 ^ k.bits) : bits .or k x (y * 2 ^ j) = x + y * 2 ^ j := by
  obtain ⟨a, rfl⟩ := Int.eq_ofNat_of_zero_le x1
  obtain ⟨c, rfl⟩ := Int.eq_ofNat_of_zero_le y1
  have x2' : a < 2 ^ j := by exact_mod_cast x2
  have h' : a + c * 2 ^ j < 2 ^ k.bits := by exact_mod_cast h
  have e : ((c : Int) * 2 ^ j) = ((c * 2 ^ j : Nat) : Int) := by simp
  rw [e, bits_or hk (by omega) (by omega), Nat.or_comm, ← Nat.shiftLeft_eq, ← Nat.shiftLeft_add_eq_or_of_lt x2']
  rw [Nat.shiftLeft_eq]; omega
end Mm
def Bs (w : World) (ao : Option Addr) (n : Nat) (g : Nat → Int) : Prop :=
  n = 0 ∨ ∃ b off, ao = some ⟨b, off, none⟩ ∧ ∀ i, i < n → w.cell? ⟨b, off + i, none⟩ = some (.int .u8 (g i))
structure IsMem (t : TypeId) (w : World) (B D S : Nat) (m : Nat → Int) : Prop where
  head : w.rowIs B t 1 (fun _ => .slice (some ⟨D, 0, none⟩) S S)
  row : w.rowIs D 5 S (fun i => .int .u8 (m i))
  fit : Mm.Fit m
theorem IsMem.kept {t : TypeId} {w w' : World} {B D S : Nat} {m : Nat → Int} {row : Option Nat} (h : IsMem t w B D S m) (hg : w.grownBy w' row) (h1 : some B ≠ row) (h2 : some D ≠ row) : IsMem t w' B D S m :=
  ⟨h.head.of_block (hg.block B h.head.lt h1), h.row.of_block (hg.block D h.row.lt h2), h.fit⟩
theorem IsMem.below {t : TypeId} {w w' : World} {B D S N : Nat} {m : Nat → Int} (h : IsMem t w B D S m) (hg : Below N w w') (h1 : B < N) (h2 : D < N) : IsMem t w' B D S m :=
  ⟨h.head.of_block (hg.block B h1), h.row.of_block (hg.block D h2), h.fit⟩
theorem grown_trans {w w' w'' : World} {row : Option Nat} (h : w.grownBy w' row) (k : w'.grownBy w'' row) : w.grownBy w'' row :=
  ⟨k.os.trans h.os, k.tape.trans h.tape, k.output.trans h.output, Nat.le_trans h.size k.size, fun i hi hr => (k.block i (Nat.lt_of_lt_of_le hi h.size) hr).trans (h.block i hi hr)⟩
theorem grown_setCell (w : World) (b i : Nat) (v : Value) : w.grownBy (w.setCell ⟨b, i, none⟩ v) (some b) :=
  ⟨rfl, rfl, rfl, by simp [World.setCell], fun k hk hr => Below.heap_setCell _ _ _ _ (fun e => hr (by rw [e]))⟩
theorem grown_drewN {w w' : World} {row : Option Nat} (h : w.grownBy w' row) (n : Nat) : w.grownBy (w'.drewN n) row := by
  refine grown_trans h ?_
  induction n with
  | zero => exact ⟨rfl, rfl, rfl, Nat.le_refl _, fun _ _ _ => rfl⟩
  | succ n ih => exact grown_trans ih ⟨rfl, rfl, rfl, Nat.le_refl _, fun _ _ _ => rfl⟩
theorem grown_two {w w1 w2 : World} {b : Nat} (hg1 : w.grownBy w1 none) (hg2 : w1.grownBy w2 (some b)) (hb : w.heap.size ≤ b) : w.grownBy w2 none := by
  refine ⟨hg2.os.trans hg1.os, hg2.tape.trans hg1.tape, hg2.output.trans hg1.output, Nat.le_trans hg1.size hg2.size, fun k hk _ => ?_⟩
  have hne : some k ≠ some b := by intro e; injection e with e; omega
  exact (hg2.block k (Nat.lt_of_lt_of_le hk hg1.size) hne).trans (hg1.block k hk (by simp))
theorem grown_noneR {w w1 : World} (row : Option Nat) (h : w.grownBy w1 none) : w.grownBy w1 row := ⟨h.os, h.tape, h.output, h.size, fun k hk _ => h.block k hk (by simp)⟩
end Go.Proofs.YtkiockffejlnhaaGreatDoor

/- Instructions of R64 by the page's rows, as plain functions on integers: which there are, their bytes, and back. No Go here. -/
namespace Go.Proofs.YtkiockffejlnhaaGreatDoor
set_option linter.unusedVariables false
structure InV where
  op : Int
  a : Int
  b : Int
  c : Int
  k : Int
  sub : Int
  scale : Int
  imm : Int
  label : Int
namespace Rc
def fld (op : Int) : ByteArray :=
  if op = 1 ∨ op = 2 ∨ op = 20 ∨ op = 21 then ⟨#[65, 73]⟩ else if op = 3 ∨ op = 26 then ⟨#[65, 66]⟩ else if op = 4 then ⟨#[65, 66, 67, 75, 83]⟩
  else if op = 7 ∨ op = 8 then ⟨#[65, 66, 75, 83]⟩ else if op = 9 then ⟨#[65, 66, 73]⟩ else if op = 11 ∨ op = 13 then ⟨#[65, 66, 75, 73]⟩
  else if op = 15 then ⟨#[65, 66, 67, 73]⟩ else if op = 19 ∨ op = 23 ∨ op = 25 ∨ op = 29 then ⟨#[73]⟩ else if op = 27 ∨ op = 28 then ⟨#[65]⟩ else if op = 24 then ⟨#[45]⟩ else ⟨#[]⟩
def hasS (s : ByteArray) (c : Int) : Bool := s.data.toList.any (fun b => (b.toNat : Int) == c)
def regB (n : Int) : Bool := decide (0 ≤ n) && decide (n < 16)
def smallB (n : Int) : Bool := decide (-2147483648 ≤ n) && decide (n < 2147483648)
def kindB (v : InV) : Bool :=
  if v.op = 4 then Wd.hasBinB v.sub v.k else if v.op = 7 then Wd.hasUnB v.sub v.k else if v.op = 8 then Wd.numB v.sub && Wd.numB v.k else if v.op = 11 ∨ v.op = 13 then Wd.wordB v.k
  else if v.op = 15 then decide (0 ≤ v.imm) && decide (v.imm < 16) else if v.op = 25 then decide (0 ≤ v.imm) else if v.op = 29 then decide (0 < v.imm) else true
def mayB (v : InV) : Bool :=
  !(fld v.op).data.isEmpty && v.scale == 0 && v.label == 0 && regB v.a && regB v.b && regB v.c && smallB v.imm &&
  (hasS (fld v.op) 65 || v.a == 0) && (hasS (fld v.op) 66 || v.b == 0) && (hasS (fld v.op) 67 || v.c == 0) && (hasS (fld v.op) 75 || v.k == 0) && (hasS (fld v.op) 83 || v.sub == 0) && (hasS (fld v.op) 73 || v.imm == 0) && kindB v
def cc (v : InV) : Int := if v.op = 11 ∨ v.op = 13 then v.k else v.c
def nn (v : InV) : Int := if v.op = 4 ∨ v.op = 7 ∨ v.op = 8 then v.k + 256 * v.sub else v.imm
def enc (v : InV) (i : Nat) : Int :=
  if i = 0 then v.op % 256 else if i = 1 then v.a % 256 else if i = 2 then v.b % 256 else if i = 3 then cc v % 256 else Mm.by8 (nn v % 4294967296) (i - 4)
def s32 (u : Int) : Int := (u + 2147483648) % 4294967296 - 2147483648
def rd (g : Nat → Int) : InV :=
  let n := s32 (Mm.ld g 4 4)
  if g 0 = 4 ∨ g 0 = 7 ∨ g 0 = 8 then ⟨g 0, g 1, g 2, g 3, n % 256, n / 256, 0, 0, 0⟩
  else if g 0 = 11 ∨ g 0 = 13 then ⟨g 0, g 1, g 2, 0, g 3, 0, 0, n, 0⟩ else ⟨g 0, g 1, g 2, g 3, 0, 0, 0, n, 0⟩
def wideB (g : Nat → Int) : Bool := (g 0 == 4 || g 0 == 7 || g 0 == 8) && (decide (s32 (Mm.ld g 4 4) < 0) || decide (65536 ≤ s32 (Mm.ld g 4 4)))
def okB (g : Nat → Int) : Bool := !wideB g && mayB (rd g)
theorem codes (v : InV) (h : mayB v = true) : v.op = 1 ∨ v.op = 2 ∨ v.op = 3 ∨ v.op = 4 ∨ v.op = 7 ∨ v.op = 8 ∨ v.op = 9 ∨ v.op = 11 ∨ v.op = 13 ∨ v.op = 15 ∨ v.op = 19 ∨ v.op = 20 ∨ v.op = 21 ∨ v.op = 23 ∨ v.op = 24 ∨ v.op = 25 ∨ v.op = 26 ∨ v.op = 27 ∨ v.op = 28 ∨ v.op = 29 := by
  by_cases hh : (v.op = 1 ∨ v.op = 2 ∨ v.op = 3 ∨ v.op = 4 ∨ v.op = 7 ∨ v.op = 8 ∨ v.op = 9 ∨ v.op = 11 ∨ v.op = 13 ∨ v.op = 15 ∨ v.op = 19 ∨ v.op = 20 ∨ v.op = 21 ∨ v.op = 23 ∨ v.op = 24 ∨ v.op = 25 ∨ v.op = 26 ∨ v.op = 27 ∨ v.op = 28 ∨ v.op = 29)
  · exact hh
  · exfalso
    have e : fld v.op = ⟨#[]⟩ := by
      unfold fld
      rw [if_neg (by omega), if_neg (by omega), if_neg (by omega), if_neg (by omega), if_neg (by omega), if_neg (by omega), if_neg (by omega), if_neg (by omega), if_neg (by omega), if_neg (by omega)]
    unfold mayB at h
    rw [e] at h
    simp at h
theorem ld_enc (v : InV) : Mm.ld (enc v) 4 4 = nn v % 4294967296 := by
  have h : Mm.ld (enc v) 4 4 = Mm.ld (Mm.by8 (nn v % 4294967296)) 0 4 := Mm.ld_congr fun i hi => by
    unfold enc
    rw [if_neg (by omega), if_neg (by omega), if_neg (by omega), if_neg (by omega)]
    congr 1; omega
  rw [h, Mm.ld_by8]
  omega
theorem s32_mod (n : Int) (h1 : -2147483648 ≤ n) (h2 : n < 2147483648) : s32 (n % 4294967296) = n := by unfold s32; omega
structure Rng (v : InV) : Prop where
  sc : v.scale = 0
  lb : v.label = 0
  a1 : 0 ≤ v.a
  a2 : v.a < 16
  b1 : 0 ≤ v.b
  b2 : v.b < 16
  c1 : 0 ≤ v.c
  c2 : v.c < 16
  i1 : -2147483648 ≤ v.imm
  i2 : v.imm < 2147483648
  u0 : hasS (fld v.op) 65 = true ∨ v.a = 0
  u1 : hasS (fld v.op) 66 = true ∨ v.b = 0
  u2 : hasS (fld v.op) 67 = true ∨ v.c = 0
  u3 : hasS (fld v.op) 75 = true ∨ v.k = 0
  u4 : hasS (fld v.op) 83 = true ∨ v.sub = 0
  u5 : hasS (fld v.op) 73 = true ∨ v.imm = 0
  kd : kindB v = true
theorem rng {v : InV} (h : mayB v = true) : Rng v := by
  unfold mayB regB smallB at h
  simp only [Bool.and_eq_true, Bool.or_eq_true, beq_iff_eq, decide_eq_true_eq] at h
  obtain ⟨⟨⟨⟨⟨⟨⟨⟨⟨⟨⟨⟨⟨h0, h1⟩, h2⟩, h3⟩, h4⟩, h5⟩, h6⟩, h7⟩, h8⟩, h9⟩, h10⟩, h11⟩, h12⟩, h13⟩ := h
  exact ⟨h1, h2, h3.1, h3.2, h4.1, h4.2, h5.1, h5.2, h6.1, h6.2, h7, h8, h9, h10, h11, h12, h13⟩
theorem bin_rng {op k : Int} (h : Wd.hasBinB op k = true) : 1 ≤ op ∧ op ≤ 16 ∧ 1 ≤ k ∧ k ≤ 11 := by
  unfold Wd.hasBinB Wd.intB Wd.cmpB at h; simp at h; omega
theorem un_rng {op k : Int} (h : Wd.hasUnB op k = true) : 1 ≤ op ∧ op ≤ 3 ∧ 1 ≤ k ∧ k ≤ 11 := by
  unfold Wd.hasUnB Wd.numB Wd.intB at h; simp at h; omega
theorem conv_rng {f t : Int} (h : (Wd.numB f && Wd.numB t) = true) : 2 ≤ f ∧ f ≤ 10 ∧ 2 ≤ t ∧ t ≤ 10 := by
  unfold Wd.numB at h; simp at h; omega
theorem word_rng {k : Int} (h : Wd.wordB k = true) : 1 ≤ k ∧ k ≤ 11 := by unfold Wd.wordB at h; simpa using h
theorem back (v : InV) (h : mayB v = true) : rd (enc v) = v ∧ wideB (enc v) = false := by
  have r := rng h
  have hc := codes v h
  have e0 : enc v 0 = v.op := by show v.op % 256 = _; omega
  have e1 : enc v 1 = v.a := by show v.a % 256 = _; have := r.a1; have := r.a2; omega
  have e2 : enc v 2 = v.b := by show v.b % 256 = _; have := r.b1; have := r.b2; omega
  have e3 : enc v 3 = cc v % 256 := rfl
  obtain ⟨op, a, b, c, k, sub, sc, imm, lb⟩ := v
  obtain ⟨h1, h2, a1, a2, b1, b2, c1, c2, i1, i2, u0, u1, u2, u3, u4, u5, kd⟩ := r
  dsimp only at *
  subst h1 h2
  rcases hc with rfl | rfl | rfl | rfl | rfl | rfl | rfl | rfl | rfl | rfl | rfl | rfl | rfl | rfl | rfl | rfl | rfl | rfl | rfl | rfl
  all_goals try (replace u0 := u0.resolve_left (by decide))
  all_goals try (replace u1 := u1.resolve_left (by decide))
  all_goals try (replace u2 := u2.resolve_left (by decide))
  all_goals try (replace u3 := u3.resolve_left (by decide))
  all_goals try (replace u4 := u4.resolve_left (by decide))
  all_goals try (replace u5 := u5.resolve_left (by decide))
  all_goals try (replace kd := bin_rng (show Wd.hasBinB sub k = true from kd))
  all_goals try (replace kd := un_rng (show Wd.hasUnB sub k = true from kd))
  all_goals try (replace kd := conv_rng (show (Wd.numB sub && Wd.numB k) = true from kd))
  all_goals try (replace kd := word_rng (show Wd.wordB k = true from kd))
  all_goals
    unfold rd wideB
    rw [e0, e1, e2, e3, ld_enc]
    simp only [nn, cc, Int.reduceEq, or_self, or_false, or_true, if_true, if_false]
    rw [s32_mod _ (by omega) (by omega)]
    refine ⟨?_, ?_⟩
    · simp only [InV.mk.injEq, true_and, and_true]; omega
    · first | rfl | (simp; done) | (simp; omega)
theorem ok_enc (v : InV) (h : mayB v = true) : okB (enc v) = true := by
  have b := back v h
  unfold okB; rw [b.1, b.2, h]; rfl
theorem rd_congr {g g' : Nat → Int} (h : ∀ i, i < 8 → g i = g' i) : rd g = rd g' ∧ okB g = okB g' := by
  have l : Mm.ld g 4 4 = Mm.ld g' 4 4 := Mm.ld_congr fun i hi => h _ (by omega)
  have r : rd g = rd g' := by unfold rd; rw [l, h 0 (by omega), h 1 (by omega), h 2 (by omega), h 3 (by omega)]
  refine ⟨r, ?_⟩
  unfold okB wideB
  rw [r, l, h 0 (by omega)]
theorem inj {u v : InV} (hu : mayB u = true) (hv : mayB v = true) (h : ∀ i, i < 8 → enc u i = enc v i) : u = v := by
  rw [← (back u hu).1, ← (back v hv).1, (rd_congr h).1]
theorem enc_fit (v : InV) : Mm.Fit (enc v) := by
  intro i; unfold enc
  repeat' split
  all_goals first | omega | exact Mm.by8_rng _ _
end Rc
end Go.Proofs.YtkiockffejlnhaaGreatDoor

/- Linking, as plain numbers: sizes of jumps that grow until all fit; the least way. -/
namespace Go.Proofs.YtkiockffejlnhaaGreatDoor
set_option linter.unusedVariables false
namespace Lk
def pos (s : Nat → Int) : Nat → Int
  | 0 => 0
  | k + 1 => pos s k + s k
theorem pos_succ (s : Nat → Int) (k : Nat) : pos s (k + 1) = pos s k + s k := rfl
def fitB (x : Int) : Bool := decide (-128 ≤ x) && decide (x < 128)
theorem fitB_iff {x : Int} : fitB x = true ↔ -128 ≤ x ∧ x < 128 := by unfold fitB; simp
theorem fitB_no {x : Int} : fitB x = false ↔ x < -128 ∨ 128 ≤ x := by
  rw [← Bool.not_eq_true, fitB_iff]; omega
structure Sh where
  n : Nat
  j : Nat → Bool
  tg : Nat → Nat
  s : Nat → Int
  g : Int
structure Sh.Ok (P : Sh) : Prop where
  tg : ∀ i, i < P.n → P.j i = true → P.tg i ≤ P.n
  one : ∀ i, i < P.n → 1 ≤ P.s i
  le : ∀ i, i < P.n → P.j i = true → P.s i ≤ P.g
def Sh.size (P : Sh) (L : Nat → Bool) (i : Nat) : Int := if P.j i && L i then P.g else P.s i
def Sh.imm (P : Sh) (L : Nat → Bool) (i : Nat) : Int := pos (P.size L) (P.tg i) - pos (P.size L) (i + 1)
def Sh.over (P : Sh) (i m : Nat) : Int := if i < m ∧ m < P.tg i then 1 else if P.tg i ≤ m ∧ m < i then -1 else 0
def with1 (L : Nat → Bool) (m : Nat) : Nat → Bool := fun i => L i || decide (i = m)
def Sh.Closed (P : Sh) (L : Nat → Bool) : Prop := ∀ i, i < P.n → P.j i = true → fitB (P.imm L i) = false → L i = true
structure Sh.Least (P : Sh) (L : Nat → Bool) : Prop where
  cl : P.Closed L
  le : ∀ C, P.Closed C → ∀ i, i < P.n → P.j i = true → L i = true → C i = true
theorem pos_congr {s s' : Nat → Int} : ∀ {k : Nat}, (∀ i, i < k → s i = s' i) → pos s k = pos s' k
  | 0, _ => rfl
  | k + 1, h => by unfold pos; rw [pos_congr (fun i hi => h i (by omega)), h k (by omega)]
theorem pos_le {s s' : Nat → Int} {a : Nat} : ∀ {b : Nat}, a ≤ b → (∀ i, a ≤ i → i < b → s i ≤ s' i) → pos s b - pos s a ≤ pos s' b - pos s' a
  | 0, h, _ => by have : a = 0 := by omega
                  subst this; simp
  | b + 1, h, hs => by
    by_cases e : a = b + 1
    · subst e; simp
    · have := pos_le (b := b) (by omega) (fun i h1 h2 => hs i h1 (by omega))
      have h2 := hs b (by omega) (by omega)
      rw [pos_succ, pos_succ]
      omega
theorem pos_count {s : Nat → Int} {a : Nat} : ∀ {b : Nat}, a ≤ b → (∀ i, a ≤ i → i < b → 1 ≤ s i) → ((b : Int) - a) ≤ pos s b - pos s a
  | 0, h, _ => by have : a = 0 := by omega
                  subst this; simp
  | b + 1, h, hs => by
    by_cases e : a = b + 1
    · subst e; simp
    · have := pos_count (b := b) (by omega) (fun i h1 h2 => hs i h1 (by omega))
      have h2 := hs b (by omega) (by omega)
      rw [pos_succ]
      omega
theorem Sh.Ok.size1 {P : Sh} (h : P.Ok) (L : Nat → Bool) {i : Nat} (hi : i < P.n) : 1 ≤ P.size L i := by
  unfold Sh.size
  have h1 := h.one i hi
  split
  · next hh => have := h.le i hi (by simp at hh; exact hh.1); omega
  · exact h1
theorem Sh.Ok.size_mono {P : Sh} (h : P.Ok) {L L' : Nat → Bool} (hl : ∀ i, i < P.n → P.j i = true → L i = true → L' i = true) {i : Nat} (hi : i < P.n) : P.size L i ≤ P.size L' i := by
  unfold Sh.size
  have h1 := h.le i hi
  have h2 := hl i hi
  cases hj : P.j i <;> cases hL : L i <;> cases hL' : L' i <;> simp_all
theorem Sh.Ok.far_mono {P : Sh} (h : P.Ok) {L L' : Nat → Bool} (hl : ∀ i, i < P.n → P.j i = true → L i = true → L' i = true) {i : Nat} (hi : i < P.n) (hj : P.j i = true) (hf : fitB (P.imm L i) = false) : fitB (P.imm L' i) = false := by
  rw [fitB_no] at hf ⊢
  have ht := h.tg i hi hj
  unfold Sh.imm at hf ⊢
  by_cases hd : i + 1 ≤ P.tg i
  · have h1 := pos_le hd (s := P.size L) (s' := P.size L') (fun k _ hk => h.size_mono hl (by omega))
    have h2 := pos_count hd (s := P.size L) (fun k _ hk => h.size1 L (by omega))
    omega
  · have h1 := pos_le (a := P.tg i) (b := i + 1) (by omega) (s := P.size L) (s' := P.size L') (fun k _ hk => h.size_mono hl (by omega))
    have h2 := pos_count (a := P.tg i) (b := i + 1) (by omega) (s := P.size L) (fun k _ hk => h.size1 L (by omega))
    omega
theorem Sh.Least.far {P : Sh} (h : P.Ok) {L : Nat → Bool} (hl : P.Least L) {i : Nat} (hi : i < P.n) (hj : P.j i = true) : L i = !fitB (P.imm L i) := by
  have hc : P.Closed (fun k => P.j k && decide (k < P.n) && !fitB (P.imm L k)) := by
    intro k hk hkj hf
    have : fitB (P.imm L k) = false := by
      refine h.far_mono (fun m hm hmj hx => ?_) hk hkj hf
      simp at hx
      exact hl.cl m hm hmj hx.2
    simp [hkj, hk, this]
  cases hL : L i
  · cases hf : fitB (P.imm L i)
    · have := hl.cl i hi hj hf
      rw [hL] at this
      cases this
    · rfl
  · have := hl.le _ hc i hi hj hL
    simp at this
    rw [this.2]
    rfl
theorem Sh.Least.same {P : Sh} {L L' : Nat → Bool} (hl : P.Least L) (hl' : P.Least L') {i : Nat} (hi : i < P.n) : P.size L i = P.size L' i := by
  unfold Sh.size
  cases hj : P.j i
  · simp
  · have e : L i = L' i := by
      cases hL : L i <;> cases hL' : L' i
      · rfl
      · have := hl'.le L hl.cl i hi hj hL'
        rw [hL] at this; cases this
      · have := hl.le L' hl'.cl i hi hj hL
        rw [hL'] at this; cases this
      · rfl
    rw [e]
theorem pos_with (P : Sh) (L : Nat → Bool) (m : Nat) (hj : P.j m = true) : ∀ k, pos (P.size (with1 L m)) k = pos (P.size L) k + if m < k then P.g - P.size L m else 0
  | 0 => by simp [pos]
  | k + 1 => by
    unfold pos
    rw [pos_with P L m hj k]
    by_cases e : k = m
    · subst e
      have : P.size (with1 L k) k = P.g := by unfold Sh.size with1; simp [hj]
      rw [this]
      simp
      omega
    · have : P.size (with1 L m) k = P.size L k := by unfold Sh.size with1; simp [e]
      rw [this]
      by_cases hk : m < k
      · rw [if_pos hk, if_pos (by omega)]; omega
      · rw [if_neg hk, if_neg (by omega)]; omega
theorem imm_with (P : Sh) (L : Nat → Bool) (m : Nat) (hj : P.j m = true) {i : Nat} (hi : i ≠ m) : P.imm (with1 L m) i = P.imm L i + (P.g - P.size L m) * P.over i m := by
  unfold Sh.imm Sh.over
  rw [pos_with P L m hj, pos_with P L m hj]
  by_cases h1 : m < P.tg i <;> by_cases h2 : m < i + 1
  · rw [if_pos h1, if_pos h2, if_neg (by omega), if_neg (by omega)]; omega
  · rw [if_pos h1, if_neg h2, if_pos (by omega)]; omega
  · rw [if_neg h1, if_pos h2, if_neg (by omega), if_pos (by omega)]; omega
  · rw [if_neg h1, if_neg h2, if_neg (by omega), if_neg (by omega)]; omega
theorem over_far {P : Sh} (h : P.Ok) (L : Nat → Bool) {i m : Nat} (hi : i < P.n) (hj : P.j i = true) (hf : fitB (P.imm L i) = true) (hw : i + 128 < m ∨ m + 128 < i) : P.over i m = 0 := by
  rw [fitB_iff] at hf
  have ht := h.tg i hi hj
  unfold Sh.imm at hf
  unfold Sh.over
  by_cases h1 : i < m ∧ m < P.tg i
  · have h2 := pos_count (a := i + 1) (b := P.tg i) (by omega) (s := P.size L) (fun k _ hk => h.size1 L (by omega))
    omega
  · rw [if_neg h1]
    by_cases h3 : P.tg i ≤ m ∧ m < i
    · have h2 := pos_count (a := P.tg i) (b := i + 1) (by omega) (s := P.size L) (fun k _ hk => h.size1 L (by omega))
      omega
    · rw [if_neg h3]
structure St (P : Sh) (L : Nat → Bool) (J : Nat → Int) (Q : Nat → Prop) : Prop where
  fits : ∀ i, i < P.n → P.j i = true → fitB (J i) = true → J i = P.imm L i
  none : ∀ i, i < P.n → P.j i = false → J i = 0
  far : ∀ i, i < P.n → P.j i = true → fitB (J i) = false → fitB (P.imm L i) = false ∧ (L i = true ∨ Q i)
  long : ∀ i, i < P.n → P.j i = true → L i = true → fitB (J i) = false
  must : ∀ i, i < P.n → P.j i = true → fitB (J i) = false → ∀ C, P.Closed C → C i = true
theorem St.least {P : Sh} {L : Nat → Bool} {J : Nat → Int} {Q : Nat → Prop} (h : St P L J Q) (hq : ∀ i, i < P.n → P.j i = true → ¬ Q i) : P.Least L where
  cl := fun i hi hj hf => by
    cases hJ : fitB (J i)
    · rcases (h.far i hi hj hJ).2 with h1 | h1
      · exact h1
      · exact absurd h1 (hq i hi hj)
    · rw [← h.fits i hi hj hJ, hJ] at hf
      cases hf
  le := fun C hC i hi hj hL => h.must i hi hj (h.long i hi hj hL) C hC
def bump (P : Sh) (L : Nat → Bool) (J : Nat → Int) (m : Nat) (i : Nat) : Int := if fitB (J i) then J i + (P.g - P.size L m) * (if P.j i then P.over i m else 0) else J i
theorem St.bump {P : Sh} (h : P.Ok) {L : Nat → Bool} {J : Nat → Int} {Q : Nat → Prop} (st : St P L J Q) {m : Nat} (hm : m < P.n) (hmj : P.j m = true) (hmf : fitB (J m) = false) :
    St P (with1 L m) (bump P L J m) (fun i => (Q i ∧ i ≠ m) ∨ (fitB (J i) = true ∧ fitB (bump P L J m i) = false)) := by
  have hmono : ∀ i, i < P.n → P.j i = true → L i = true → with1 L m i = true := fun i _ _ h => by unfold with1; simp [h]
  have hb : ∀ i, i < P.n → P.j i = true → fitB (J i) = true → Lk.bump P L J m i = P.imm (with1 L m) i := fun i hi hj hf => by
    have : i ≠ m := by intro e; subst e; rw [hf] at hmf; cases hmf
    unfold Lk.bump
    rw [if_pos hf, if_pos hj, imm_with P L m hmj this, st.fits i hi hj hf]
  refine ⟨fun i hi hj hf => ?_, fun i hi hj => ?_, fun i hi hj hf => ?_, fun i hi hj hL => ?_, fun i hi hj hf C hC => ?_⟩
  · cases hJ : fitB (J i)
    · unfold Lk.bump at hf
      rw [hJ] at hf
      simp at hf
      rw [hJ] at hf
      cases hf
    · exact hb i hi hj hJ
  · have := st.none i hi hj
    unfold Lk.bump
    rw [hj, this]
    simp
  · cases hJ : fitB (J i)
    · have := st.far i hi hj hJ
      refine ⟨h.far_mono hmono hi hj this.1, ?_⟩
      rcases this.2 with h1 | h1
      · exact .inl (hmono i hi hj h1)
      · by_cases e : i = m
        · exact .inl (by unfold with1; simp [e])
        · exact .inr (.inl ⟨h1, e⟩)
    · have e := hb i hi hj hJ
      rw [e] at hf
      exact ⟨hf, .inr (.inr ⟨rfl, by rw [e]; exact hf⟩)⟩
  · have : fitB (J i) = false := by
      by_cases e : i = m
      · subst e; exact hmf
      · refine st.long i hi hj ?_
        unfold with1 at hL
        simpa [e] using hL
    unfold Lk.bump
    rw [this]
    simpa using this
  · cases hJ : fitB (J i)
    · exact st.must i hi hj hJ C hC
    · rw [hb i hi hj hJ] at hf
      refine hC i hi hj (h.far_mono (fun k hk hkj hL => ?_) hi hj hf)
      by_cases e : k = m
      · subst e; exact st.must k hk hkj hmf C hC
      · refine st.must k hk hkj (st.long k hk hkj ?_) C hC
        unfold with1 at hL
        simpa [e] using hL
theorem St.start {P : Sh} (h : P.Ok) : St P (fun _ => false) (fun i => if P.j i then P.imm (fun _ => false) i else 0) (fun i => fitB (P.imm (fun _ => false) i) = false) where
  fits := fun i hi hj _ => by simp [hj]
  none := fun i hi hj => by simp [hj]
  far := fun i hi hj hf => by
    simp only [hj, if_true] at hf
    exact ⟨hf, .inr hf⟩
  long := fun i hi hj hL => by cases hL
  must := fun i hi hj hf C hC => by
    simp only [hj, if_true] at hf
    exact hC i hi hj (h.far_mono (fun _ _ _ h => by cases h) hi hj hf)
theorem bump_near {P : Sh} (h : P.Ok) {L : Nat → Bool} {J : Nat → Int} {Q : Nat → Prop} (st : St P L J Q) {m i : Nat} (hi : i < P.n) (hw : i + 128 < m ∨ m + 128 < i) : bump P L J m i = J i := by
  unfold bump
  split
  · next hf =>
    split
    · next hj => rw [over_far h L hi hj (by rw [← st.fits i hi hj hf]; exact hf) hw]; simp
    · simp
  · rfl
def cnt (J : Nat → Int) : Nat → Nat
  | 0 => 0
  | k + 1 => cnt J k + if fitB (J k) then 1 else 0
theorem cnt_le (J : Nat → Int) : ∀ k, cnt J k ≤ k
  | 0 => Nat.le_refl _
  | k + 1 => by have := cnt_le J k; unfold cnt; split <;> omega
theorem cnt_congr {J J' : Nat → Int} : ∀ {k : Nat}, (∀ i, i < k → fitB (J i) = fitB (J' i)) → cnt J k = cnt J' k
  | 0, _ => rfl
  | k + 1, h => by unfold cnt; rw [cnt_congr (fun i hi => h i (by omega)), h k (by omega)]
theorem cnt_drop {J J' : Nat → Int} {m : Nat} (h1 : fitB (J m) = true) (h2 : fitB (J' m) = false) : ∀ {k : Nat}, m < k → (∀ i, i < k → i ≠ m → fitB (J i) = fitB (J' i)) → cnt J k = cnt J' k + 1
  | 0, h, _ => by omega
  | k + 1, hk, h => by
    by_cases e : m = k
    · subst e
      unfold cnt
      rw [h1, h2, cnt_congr (fun i hi => h i (by omega) (by omega))]
      simp
    · unfold cnt
      rw [cnt_drop h1 h2 (k := k) (by omega) (fun i hi => h i (by omega)), h k (by omega) (by omega)]
      omega
def part (J J' : Nat → Int) (k : Nat) (i : Nat) : Int := if i < k then J' i else J i
end Lk
end Go.Proofs.YtkiockffejlnhaaGreatDoor

/- Small functions of risc, gantryref3 and gantrylaw3: contracts. -/
namespace Go.Proofs.YtkiockffejlnhaaGreatDoor
open Go.RowKit
set_option linter.unusedVariables false
set_option maxHeartbeats 400000 in
theorem isReg_any (k : Int) (w : World) :
    Calls Tryz.prog 110 #[.int .i64 k] w fun e w' => e = .returned (.bool (Rc.regB k)) ∧ w' = w := by
  go_enter Tryz.func110, Tryz.ntmps110
  go_wp2
  all_goals (go_ret; refine ⟨ret_bool ?_, rfl⟩; simp only [Rc.regB] at *; first | (rw [Bool.eq_iff_iff]; simp at *; omega))
set_option maxHeartbeats 400000 in
theorem rreg_any (k : Int) (w : World) :
    Calls Tryz.prog 95 #[.int .i64 k] w fun e w' => e = .returned (.bool (Rc.regB k)) ∧ w' = w := by
  go_enter Tryz.func95, Tryz.ntmps95
  go_wp2
  all_goals (go_ret; refine ⟨ret_bool ?_, rfl⟩; simp only [Rc.regB] at *; first | (rw [Bool.eq_iff_iff]; simp at *; omega))
set_option maxHeartbeats 400000 in
theorem rsmall_any (k : Int) (w : World) :
    Calls Tryz.prog 71 #[.int .i64 k] w fun e w' => e = .returned (.bool (Rc.smallB k)) ∧ w' = w := by
  go_enter Tryz.func71, Tryz.ntmps71
  go_wp2
  all_goals (go_ret; refine ⟨ret_bool ?_, rfl⟩; simp only [Rc.smallB] at *; first | (rw [Bool.eq_iff_iff]; simp at *; omega))
set_option maxHeartbeats 400000 in
theorem join_any (k s : Int) (w : World) :
    Calls Tryz.prog 109 #[.int .i64 k, .int .i64 s] w fun e w' => e = .returned (.int .i64 (wrap64 (k + 256 * s))) ∧ w' = w := by
  go_enter Tryz.func109, Tryz.ntmps109
  go_wp2
  go_ret
  refine ⟨ret_i64 ?_, rfl⟩
  unfold wrap64; omega
set_option maxHeartbeats 400000 in
theorem fields_any (op : Int) (w : World) :
    Calls Tryz.prog 94 #[.int .i64 op] w fun e w' => e = .returned (.string (Rc.fld op)) ∧ w' = w := by
  go_enter Tryz.func94, Tryz.ntmps94
  go_wp2
  all_goals (go_ret; refine ⟨?_, rfl⟩; simp only [beq_iff_eq, beq_eq_false_iff_ne] at *; unfold Rc.fld; simp [*])
end Go.Proofs.YtkiockffejlnhaaGreatDoor

/- has, unused, part, fits: contracts. -/
namespace Go.Proofs.YtkiockffejlnhaaGreatDoor
open Go.RowKit
set_option linter.unusedVariables false
namespace Mm
theorem and_255i (n : Int) : bits .and .i64 n 255 = n % 256 := by
  show IntKind.i64.wrap ((BitVec.ofInt 64 n &&& BitVec.ofInt 64 255).toNat : Int) = _
  have e : (BitVec.ofInt 64 n &&& BitVec.ofInt 64 255).toNat = (n % 256).toNat := by
    rw [BitVec.toNat_and, BitVec.toNat_ofInt, show (BitVec.ofInt 64 255).toNat = 2 ^ 8 - 1 from rfl, Nat.and_two_pow_sub_one_eq_mod]
    omega
  rw [e, IntKind.wrap_i64]
  omega
end Mm
namespace Rc
theorem has_true {s : ByteArray} {c : Int} {k : Nat} (hk : k < s.size) (h : ((s[k].toNat : Int) == c) = true) : hasS s c = true := by
  unfold hasS
  rw [List.any_eq_true]
  exact ⟨s[k], by simp [ByteArray.getElem_eq_getElem_data], h⟩
theorem has_false {s : ByteArray} {c : Int} (h : ∀ k (hk : k < s.size), ((s[k].toNat : Int) == c) = false) : hasS s c = false := by
  unfold hasS
  rw [List.any_eq_false]
  intro x hx
  obtain ⟨k, hk, rfl⟩ := List.getElem_of_mem hx
  have := h k (by simpa using hk)
  rw [ByteArray.getElem_eq_getElem_data] at this
  simp only [Array.getElem_toList]
  rw [this]; simp
end Rc
set_option maxHeartbeats 400000 in
theorem part_any (n : Int) (w : World) (h1 : -9223372036854775808 ≤ n) (h2 : n ≤ 9223372036854775807) :
    Calls Tryz.prog 76 #[.int .i64 n] w fun e w' => e = .returned (.tuple #[.int .i64 (n % 256), .int .i64 (n / 256)]) ∧ w' = w := by
  have HB : Hid (bits .and .i64 n 255 = n % 256) := Mm.and_255i n
  go_enter Tryz.func76, Tryz.ntmps76
  go_wp2
  go_ret2
  refine ⟨?_, rfl⟩
  rw [← HB.out]; rfl
set_option maxHeartbeats 400000 in
theorem ffits_any (c a b k n : Int) (w : World) :
    Calls Tryz.prog 78 #[.agg #[.int .i64 c, .int .i64 a, .int .i64 b, .int .i64 k, .int .i64 n]] w fun e w' => e = .returned (.bool (Rc.smallB n)) ∧ w.grownBy w' none := by
  go_enter Tryz.func78, Tryz.ntmps78
  go_wp2
  go_ret
  refine ⟨ret_bool ?_, World.grownBy_alloc _ _ _⟩
  unfold Rc.smallB wrap64 wrap32
  rw [Bool.eq_iff_iff]; simp; omega
set_option maxHeartbeats 400000 in
theorem has_any (s : ByteArray) (c : Int) (w : World) (hs : s.size ≤ 1000) :
    Calls Tryz.prog 97 #[.string s, .int .u8 c] w fun e w' => e = .returned (.bool (Rc.hasS s c)) ∧ w' = w := by
  go_enter Tryz.func97, Tryz.ntmps97
  go_wp2
  go_loopw [5] (fun i wr => ∃ k : Nat, k ≤ s.size ∧ i = .int .i64 k ∧ wr = w ∧ ∀ j (hj : j < s.size), j < k → ((s[j].toNat : Int) == c) = false) (fun i _ => s.size - (intOf i).toNat)
  case atStart => exact ⟨0, Nat.zero_le _, rfl, rfl, fun _ _ h => absurd h (Nat.not_lt_zero _)⟩
  case round =>
    obtain ⟨k, hk, rfl, rfl, hf⟩ := hrel
    have HF : Hid (∀ j (hj : j < s.size), j < k → ((s[j].toNat : Int) == c) = false) := hf
    clear hf
    by_cases hlt : k < s.size
    · cases hc : ((s[k].toNat : Int) == c)
      · go_wp2
        go_roundw
        case rel =>
          refine ⟨k + 1, by omega, by go_num, trivial, fun j hj h => ?_⟩
          by_cases e : j = k
          · subst e; exact hc
          · exact HF.out j hj (by omega)
        case measure => simp [intOf]; omega
      · have HT : Hid (Rc.hasS s c = true) := Rc.has_true hlt hc
        go_wp2
        go_ret
        exact ⟨ret_bool HT.out.symm, rfl⟩
    · have HT : Hid (Rc.hasS s c = false) := Rc.has_false fun j hj => HF.out j hj (by omega)
      go_wp2
      go_ret
      exact ⟨ret_bool HT.out.symm, rfl⟩
set_option maxHeartbeats 400000 in
theorem unused_any (s : ByteArray) (c n : Int) (w : World) (hs : s.size ≤ 1000) :
    Calls Tryz.prog 96 #[.string s, .int .u8 c, .int .i64 n] w fun e w' => e = .returned (.bool (Rc.hasS s c || n == 0)) ∧ w' = w := by
  cases hh : Rc.hasS s c
  all_goals
    go_enter Tryz.func96, Tryz.ntmps96
    go_wp2_with (go_at_call 97; refine (has_any _ _ _ hs).mono ?_; rw [hh]; rintro e w' ⟨rfl, rfl⟩)
    go_ret
    exact ⟨rfl, rfl⟩
end Go.Proofs.YtkiockffejlnhaaGreatDoor

/- Forms of R64's instructions, as plain numbers and as values; what the walks of this layer share. -/
namespace Go.Proofs.YtkiockffejlnhaaGreatDoor
open Go.RowKit
set_option linter.unusedVariables false
structure FmV where
  code : Int
  a : Int
  b : Int
  c : Int
  n : Int
namespace Rc
def pk (v : InV) : FmV :=
  if v.op = 1 ∨ v.op = 2 ∨ v.op = 20 ∨ v.op = 21 then ⟨v.op, v.a, 0, 0, v.imm⟩ else if v.op = 3 ∨ v.op = 26 then ⟨v.op, v.a, v.b, 0, 0⟩
  else if v.op = 4 then ⟨v.op, v.a, v.b, v.c, wrap64 (v.k + 256 * v.sub)⟩ else if v.op = 7 ∨ v.op = 8 then ⟨v.op, v.a, v.b, 0, wrap64 (v.k + 256 * v.sub)⟩
  else if v.op = 9 then ⟨v.op, v.a, v.b, 0, v.imm⟩ else if v.op = 11 ∨ v.op = 13 then ⟨v.op, v.a, v.b, v.k, v.imm⟩ else if v.op = 15 then ⟨v.op, v.a, v.b, v.c, v.imm⟩
  else if v.op = 19 ∨ v.op = 23 ∨ v.op = 25 ∨ v.op = 29 then ⟨v.op, 0, 0, 0, v.imm⟩ else if v.op = 27 ∨ v.op = 28 then ⟨v.op, v.a, 0, 0, 0⟩ else if v.op = 24 then ⟨v.op, 0, 0, 0, 0⟩ else ⟨0, 0, 0, 0, 0⟩
def unpk (f : FmV) : InV :=
  if f.code = 1 ∨ f.code = 2 ∨ f.code = 20 ∨ f.code = 21 then ⟨f.code, f.a, 0, 0, 0, 0, 0, f.n, 0⟩ else if f.code = 3 ∨ f.code = 26 then ⟨f.code, f.a, f.b, 0, 0, 0, 0, 0, 0⟩
  else if f.code = 4 then ⟨f.code, f.a, f.b, f.c, f.n % 256, f.n / 256, 0, 0, 0⟩ else if f.code = 7 ∨ f.code = 8 then ⟨f.code, f.a, f.b, 0, f.n % 256, f.n / 256, 0, 0, 0⟩
  else if f.code = 9 then ⟨f.code, f.a, f.b, 0, 0, 0, 0, f.n, 0⟩ else if f.code = 11 ∨ f.code = 13 then ⟨f.code, f.a, f.b, 0, f.c, 0, 0, f.n, 0⟩ else if f.code = 15 then ⟨f.code, f.a, f.b, f.c, 0, 0, 0, f.n, 0⟩
  else if f.code = 19 ∨ f.code = 23 ∨ f.code = 25 ∨ f.code = 29 then ⟨f.code, 0, 0, 0, 0, 0, 0, f.n, 0⟩ else if f.code = 27 ∨ f.code = 28 then ⟨f.code, f.a, 0, 0, 0, 0, 0, 0, 0⟩ else if f.code = 24 then ⟨f.code, 0, 0, 0, 0, 0, 0, 0, 0⟩ else ⟨0, 0, 0, 0, 0, 0, 0, 0, 0⟩
end Rc
def inst (v : InV) : Value := .agg #[.int .i64 v.op, .int .i64 v.a, .int .i64 v.b, .int .i64 v.c, .int .i64 v.k, .int .i64 v.sub, .int .i64 v.scale, .int .i64 v.imm, .int .i64 v.label]
def formv (f : FmV) : Value := .agg #[.int .i64 f.code, .int .i64 f.a, .int .i64 f.b, .int .i64 f.c, .int .i64 f.n]
namespace Rc
theorem ops (o : Int) : o = 1 ∨ o = 2 ∨ o = 20 ∨ o = 21 ∨ o = 3 ∨ o = 26 ∨ o = 4 ∨ o = 7 ∨ o = 8 ∨ o = 9 ∨ o = 11 ∨ o = 13 ∨ o = 15 ∨ o = 19 ∨ o = 23 ∨ o = 25 ∨ o = 29 ∨ o = 27 ∨ o = 28 ∨ o = 24 ∨ ((o == 1) = false ∧ (o == 2) = false ∧ (o == 20) = false ∧ (o == 21) = false ∧ (o == 3) = false ∧ (o == 26) = false ∧ (o == 4) = false ∧ (o == 7) = false ∧ (o == 8) = false ∧ (o == 9) = false ∧ (o == 11) = false ∧ (o == 13) = false ∧ (o == 15) = false ∧ (o == 19) = false ∧ (o == 23) = false ∧ (o == 25) = false ∧ (o == 29) = false ∧ (o == 27) = false ∧ (o == 28) = false ∧ (o == 24) = false) := by
  by_cases h : (o = 1 ∨ o = 2 ∨ o = 20 ∨ o = 21 ∨ o = 3 ∨ o = 26 ∨ o = 4 ∨ o = 7 ∨ o = 8 ∨ o = 9 ∨ o = 11 ∨ o = 13 ∨ o = 15 ∨ o = 19 ∨ o = 23 ∨ o = 25 ∨ o = 29 ∨ o = 27 ∨ o = 28 ∨ o = 24)
  · omega
  · simp only [not_or] at h
    simp only [beq_eq_false_iff_ne]
    right; simp only [ne_eq]; omega
end Rc
theorem grown_alloc2 (w : World) (a b : Obj) : w.grownBy ((w.alloc a).alloc b) none := grown_trans (World.grownBy_alloc _ _ _) (World.grownBy_alloc _ _ _)
theorem grown_drew {w w' : World} {row : Option Nat} (h : w.grownBy w' row) : w.grownBy w'.drew row := grown_trans h ⟨rfl, rfl, rfl, Nat.le_refl _, fun _ _ _ => rfl⟩
theorem tail_drew {P : Program} {id : Nat} {Q : Exit → Act → World → Prop} {a : Act} {w : World} {l : List Oper} (n : Nat) (hm : P.follows .mixedOrders = true) (hB : Region.lexTailB .any l.toArray n = true)
    (h : wpStill P l.toArray w.drew (fun a' => wpList P l.toArray Q (l.drop n) a' w.drew) (l.take n) a) : (Code.region id l.toArray true).wp P Q a w := wp_region_still_tail n hm hB h
theorem ga {w w1 : World} (h : w.grownBy w1 none) (o : Obj) : w.grownBy (w1.alloc o) none := grown_trans h (World.grownBy_alloc _ _ _)
theorem gs {w w1 : World} (h : w.grownBy w1 none) {b : Nat} (i : Nat) (v : Value) (hb : w.heap.size ≤ b) : w.grownBy (w1.setCell ⟨b, i, none⟩ v) none := grown_two h (grown_setCell _ _ _ _) hb
theorem gn {w w1 : World} (h : w.grownBy w1 none) (n : Nat) : w.grownBy (w1.drewN n) none := grown_drewN h n
end Go.Proofs.YtkiockffejlnhaaGreatDoor

/- mem.read and mem.write at each width: contracts. -/
namespace Go.Proofs.YtkiockffejlnhaaGreatDoor
open Go.RowKit
set_option linter.unusedVariables false
end Go.Proofs.YtkiockffejlnhaaGreatDoor

/- mem.write at each width: contracts. -/
namespace Go.Proofs.YtkiockffejlnhaaGreatDoor
open Go.RowKit
set_option linter.unusedVariables false
end Go.Proofs.YtkiockffejlnhaaGreatDoor

/- mem.pick, mem.lay, (*Mem).room, New, Size: contracts. -/
namespace Go.Proofs.YtkiockffejlnhaaGreatDoor
open Go.RowKit
set_option linter.unusedVariables false
theorem IsMem.cell {t : TypeId} {w : World} {B D S : Nat} {m : Nat → Int} (h : IsMem t w B D S m) : w.cell? ⟨B, 0, none⟩ = some (.slice (some ⟨D, 0, none⟩) S S) := h.head.cell (i := 0) (by omega)
end Go.Proofs.YtkiockffejlnhaaGreatDoor

/- mem.New, Size and the page's own New, May: contracts. -/
namespace Go.Proofs.YtkiockffejlnhaaGreatDoor
open Go.RowKit
set_option linter.unusedVariables false
theorem info_u8 : (Tryz.prog.info? 5).map (fun i => (i.zero, i.size, i.bytes)) = some (some (.int .u8 0), 1, 1) := by kernel_rfl
end Go.Proofs.YtkiockffejlnhaaGreatDoor

/- (*Mem).Load, Store: contracts. -/
namespace Go.Proofs.YtkiockffejlnhaaGreatDoor
open Go.RowKit
set_option linter.unusedVariables false
namespace Mm
theorem by_cases (k : Int) : (Wd.wordB k = false ∧ Wd.by' k = 0) ∨ (Wd.wordB k = true ∧ (Wd.by' k = 1 ∨ Wd.by' k = 2 ∨ Wd.by' k = 4 ∨ Wd.by' k = 8)) := by
  rcases Wd.kinds k with h | h | h | h | h | h | h | h | h | h | h | h
  all_goals first
    | (subst h; right; exact ⟨rfl, by decide⟩)
    | (left; constructor
       · unfold Wd.wordB; simp; omega
       · unfold Wd.by' Wd.wid; rw [if_neg (by omega), if_neg (by omega), if_neg (by omega), if_neg (by omega), if_neg (by omega)]; rfl)
end Mm
end Go.Proofs.YtkiockffejlnhaaGreatDoor

/- (*Mem).Store: contract. -/
namespace Go.Proofs.YtkiockffejlnhaaGreatDoor
open Go.RowKit
set_option linter.unusedVariables false
theorem IsMem.put {t : TypeId} {w w' : World} {B D S : Nat} {m m' : Nat → Int} (h : IsMem t w B D S m) (hg : w.grownBy w' (some D)) (ht : t ≠ 5) (hr : w'.rowIs D 5 S (fun i => .int .u8 (m' i))) (hf : Mm.Fit m') : IsMem t w' B D S m' := by
  refine ⟨h.head.of_block (hg.block B h.head.lt ?_), hr, hf⟩
  intro e
  injection e with e
  subst e
  obtain ⟨c, hc, _⟩ := h.head
  obtain ⟨d, hd, _⟩ := h.row
  rw [hc] at hd
  injection hd with hd
  injection hd with _ hd
  exact ht hd
theorem IsMem.apart {t : TypeId} {w : World} {B D S : Nat} {m : Nat → Int} (h : IsMem t w B D S m) (ht : t ≠ 5) : B ≠ D := by
  intro e
  subst e
  obtain ⟨c, hc, _⟩ := h.head
  obtain ⟨d, hd, _⟩ := h.row
  rw [hc] at hd
  injection hd with hd
  injection hd with _ hd
  exact ht hd
end Go.Proofs.YtkiockffejlnhaaGreatDoor

/- (*Mem).Get, Put: contracts. -/
namespace Go.Proofs.YtkiockffejlnhaaGreatDoor
open Go.RowKit
set_option linter.unusedVariables false
def bytesL (n : Nat) (g : Nat → Int) : List Value := (List.range n).map fun i => .int .u8 (g i)
theorem bytesL_len (n : Nat) (g : Nat → Int) : (bytesL n g).length = n := by simp [bytesL]
theorem bytesL_get {n : Nat} {g : Nat → Int} {j : Nat} {v : Value} (h : (bytesL n g)[j]? = some v) : j < n ∧ v = .int .u8 (g j) := by
  have hj : j < n := by
    rw [← bytesL_len n g]
    exact (List.getElem?_eq_some_iff.1 h).1
  refine ⟨hj, ?_⟩
  simp [bytesL, hj] at h
  exact h.symm
theorem bytesL_at {n : Nat} (g : Nat → Int) {j : Nat} (h : j < n) : (bytesL n g)[j]? = some (.int .u8 (g j)) := by simp [bytesL, h]
theorem bytesL_one (n : Nat) (g : Nat → Int) : ∀ v ∈ bytesL n g, v.oneCell' = true := by
  intro v hv
  obtain ⟨i, _, rfl⟩ := List.mem_map.1 hv
  rfl
theorem add_none (b off n : Nat) : (⟨b, off, none⟩ : Addr).add n = ⟨b, off + n, none⟩ := by
  unfold Addr.add; split <;> simp_all
def OwnB (w : World) (base : Nat) (v : Value) (n : Nat) (g : Nat → Int) : Prop := w.ownsRow base 5 1 v n (bytesL n g)
theorem OwnB.kept {w w' : World} {base n : Nat} {v : Value} {g : Nat → Int} {row : Option Nat} (h : OwnB w base v n g) (hg : w.grownBy w' row) (hne : v.ownBlock = none ∨ v.ownBlock ≠ row) : OwnB w' base v n g := World.ownsRow.kept h hg hne
theorem OwnB.lt {w : World} {base n : Nat} {v : Value} {g : Nat → Int} (h : OwnB w base v n g) : ∀ k, v.ownBlock = some k → base ≤ k ∧ k < w.heap.size := World.ownsRow.lt h
theorem OwnB.shape {w : World} {base n : Nat} {v : Value} {g : Nat → Int} (h : OwnB w base v n g) : ∃ ao cap, v = .slice ao n cap ∧ (ao = none → n = 0 ∧ cap = 0) ∧ n ≤ cap ∧ cap ≤ maxLen ∧ Bs w ao n g := by
  obtain ⟨hl, h⟩ := h
  rcases h with ⟨rfl, rfl⟩ | ⟨b, cap, cur, rfl, hb, hh, hn, hc, hs, ht⟩
  · exact ⟨none, 0, rfl, fun _ => ⟨rfl, rfl⟩, Nat.le_refl _, by unfold maxLen; omega, .inl rfl⟩
  · refine ⟨some ⟨b, 0, none⟩, cap, rfl, (fun h => by cases h), hn, hc, .inr ⟨b, 0, rfl, fun i hi => ?_⟩⟩
    have h1 : (bytesL n g)[i]? = some (.int .u8 (g i)) := bytesL_at g hi
    rw [← ht, List.getElem?_take, if_pos (by omega)] at h1
    simp only [World.cell?, hh]
    simpa using h1
end Go.Proofs.YtkiockffejlnhaaGreatDoor

/- (*Mem).Get; gantryref0.EqBytes, CopyBytes; gantrylaw0.Bytes: contracts. -/
namespace Go.Proofs.YtkiockffejlnhaaGreatDoor
open Go.RowKit
set_option linter.unusedVariables false
theorem Bs.at {w : World} {ao : Option Addr} {n : Nat} {g : Nat → Int} (h : Bs w ao n g) (hn : 0 < n) : ∃ b off, ao = some ⟨b, off, none⟩ ∧ ∀ i, i < n → w.cell? ⟨b, off + i, none⟩ = some (.int .u8 (g i)) := by
  rcases h with h | h
  · omega
  · exact h
set_option maxHeartbeats 800000 in
theorem eq_true (n ca cb b o b' o' : Nat) (g g' : Nat → Int) (w : World) (hn : (n : Int) ≤ 140737488351232)
    (ha : ∀ i, i < n → w.cell? ⟨b, o + i, none⟩ = some (.int .u8 (g i))) (hb : ∀ i, i < n → w.cell? ⟨b', o' + i, none⟩ = some (.int .u8 (g' i))) (he : ∀ i, i < n → g i = g' i) :
    Calls Tryz.prog 10 #[.slice (some ⟨b, o, none⟩) n ca, .slice (some ⟨b', o', none⟩) n cb] w fun e w' => e = .returned (.bool true) ∧ ∃ d, w' = w.drewN d := by
  have HA : Hid (∀ i, i < n → w.cell? ⟨b, o + i, none⟩ = some (.int .u8 (g i))) := ha
  have HB : Hid (∀ i, i < n → w.cell? ⟨b', o' + i, none⟩ = some (.int .u8 (g' i))) := hb
  have HE : Hid (∀ i, i < n → g i = g' i) := he
  clear ha hb he
  go_enter Tryz.func10, Tryz.ntmps10
  go_wp2
  go_loopw [5] (fun s wr => ∃ k : Nat, k ≤ n ∧ s = .int .i64 k ∧ ∃ d, wr = w.drewN d) (fun s _ => n - (intOf s).toNat)
  case atStart => exact ⟨0, Nat.zero_le _, rfl, 0, rfl⟩
  case round =>
    obtain ⟨k, hk, rfl, d, rfl⟩ := hrel
    by_cases hlt : k < n
    · have c1 : (w.drewN d).cell? ⟨b, o + k, none⟩ = some (.int .u8 (g k)) := HA.out k hlt
      have c2 : (w.drewN d).cell? ⟨b', o' + k, none⟩ = some (.int .u8 (g k)) := by rw [HE.out k hlt]; exact HB.out k hlt
      have HW : Hid (∃ d', w.drewN d = w.drewN d') := ⟨d, rfl⟩
      have hlt' : (k : Int) < (n : Int) := by omega
      generalize w.drewN d = W at *
      generalize g k = y at *
      go_wp2_with fail
      go_quiet (fail)
      go_wp2
      go_roundw
      case rel => obtain ⟨d', rfl⟩ := HW.out; exact ⟨k + 1, by omega, by go_num, _, World.drewN_drewN _ _ _⟩
      case measure => simp [intOf]; omega
    · obtain rfl : k = n := by omega
      go_wp2
      go_ret
      exact ⟨rfl, d, rfl⟩
set_option maxHeartbeats 800000 in
theorem eq_none (ca cb : Nat) (ao bo : Option Addr) (w : World) :
    Calls Tryz.prog 10 #[.slice ao 0 ca, .slice bo 0 cb] w fun e w' => e = .returned (.bool true) ∧ ∃ d, w' = w.drewN d := by
  go_enter Tryz.func10, Tryz.ntmps10
  go_wp2
  go_loopw [5] (fun s wr => s = .int .i64 0 ∧ wr = w) (fun s _ => 0)
  case atStart => exact ⟨rfl, rfl⟩
  case round =>
    obtain ⟨rfl, rfl⟩ := hrel
    go_wp2
    go_ret
    exact ⟨rfl, 0, rfl⟩
theorem eqB (n ca cb : Nat) (ao bo : Option Addr) (g g' : Nat → Int) (w : World) (hn : (n : Int) ≤ 140737488351232) (ha : Bs w ao n g) (hb : Bs w bo n g') (he : ∀ i, i < n → g i = g' i) :
    Calls Tryz.prog 10 #[.slice ao n ca, .slice bo n cb] w fun e w' => e = .returned (.bool true) ∧ ∃ d, w' = w.drewN d := by
  by_cases h0 : n = 0
  · subst h0; exact eq_none ca cb ao bo w
  · obtain ⟨b, o, rfl, ha1⟩ := ha.at (by omega)
    obtain ⟨b', o', rfl, hb1⟩ := hb.at (by omega)
    exact eq_true n ca cb b o b' o' g g' w hn ha1 hb1 he
set_option maxRecDepth 100000 in
set_option maxHeartbeats 800000 in
theorem copyB (n cap : Nat) (ao : Option Addr) (g : Nat → Int) (w : World) (hn : (n : Int) ≤ 140737488351232) (h0 : ao = none → n = 0 ∧ cap = 0) (ha : Bs w ao n g) :
    Calls Tryz.prog 7 #[.slice ao n cap] w fun e w' => ∃ v, e = .returned v ∧ OwnB w' w.heap.size v n g ∧ w.grownBy w' none := by
  obtain ⟨i, hi, hz0, hz1, hz2⟩ := info_parts info_u8
  cases ao with
  | none =>
    obtain ⟨rfl, rfl⟩ := h0 rfl
    go_enter Tryz.func7, Tryz.ntmps7
    go_wp2_with (at_builtin; refine wpList_append_own_none rfl _ _ 24 rfl w.heap.size 5 i 1 Tryz.underlying24 hi _ 0 [] rfl (World.ownsRow_nil _ _ _ _) rfl ?_)
    go_ret
    exact ⟨_, rfl, World.ownsRow_nil _ _ _ _, World.grownBy.refl _ _⟩
  | some ad =>
    have HC : Hid (∀ j u, (bytesL n g)[j]? = some u → w.cell? (ad.add j) = some u) := by
      intro j u hu
      obtain ⟨hj, rfl⟩ := bytesL_get hu
      obtain ⟨b, o, e, hc⟩ := ha.at (by omega)
      injection e with e
      subst e
      rw [add_none]
      exact hc j hj
    clear ha h0
    go_enter Tryz.func7, Tryz.ntmps7
    go_wp2_with (at_builtin; refine wpList_append_own _ rfl _ _ 24 rfl w.heap.size 5 i (.int .u8 0) 1 1 Tryz.underlying24 hi hz0 hz1 hz2 rfl (by decide) _ 0 [] rfl (World.ownsRow_nil _ _ _ _) ad n cap (bytesL n g) rfl (by rw [bytesL_len]; omega) HC.out (bytesL_one _ _) (by unfold maxLen; omega) (by omega) (Nat.le_refl _) ?_; intro v' w2 ho2 hg2 hv2; simp only [Nat.zero_add, List.nil_append] at ho2)
    go_ret
    exact ⟨_, rfl, ho2, hg2⟩
theorem OwnB.cellAt {w : World} {base n b cap : Nat} {g : Nat → Int} (h : OwnB w base (.slice (some ⟨b, 0, none⟩) n cap) n g) {k : Nat} (hk : k < n) : w.cell? ⟨b, k, none⟩ = some (.int .u8 (g k)) :=
  (World.ownsRow.cellAt h k (by omega)).trans (bytesL_at g hk)
end Go.Proofs.YtkiockffejlnhaaGreatDoor

/- form.bytes, gantryref3.Encode: contracts. -/
namespace Go.Proofs.YtkiockffejlnhaaGreatDoor
open Go.RowKit
set_option linter.unusedVariables false
namespace Rc
def fb (f : FmV) (i : Nat) : Int :=
  if i = 0 then f.code % 256 else if i = 1 then f.a % 256 else if i = 2 then f.b % 256 else if i = 3 then f.c % 256 else Mm.by8 f.n (i - 4)
end Rc
theorem own8 {w : World} {base : Nat} (hb : base ≤ w.heap.size) (g : Nat → Int) (x0 x1 x2 x3 x4 x5 x6 x7 : Int) (h0 : x0 = g 0) (h1 : x1 = g 1) (h2 : x2 = g 2) (h3 : x3 = g 3) (h4 : x4 = g 4) (h5 : x5 = g 5) (h6 : x6 = g 6) (h7 : x7 = g 7) :
    OwnB (w.alloc (.cells #[.int .u8 x0, .int .u8 x1, .int .u8 x2, .int .u8 x3, .int .u8 x4, .int .u8 x5, .int .u8 x6, .int .u8 x7] 5)) base (.slice (some ⟨w.heap.size, 0, none⟩) 8 8) 8 g := by
  subst h0 h1 h2 h3 h4 h5 h6 h7
  exact World.ownsRow_lit w #[.int .u8 (g 0), .int .u8 (g 1), .int .u8 (g 2), .int .u8 (g 3), .int .u8 (g 4), .int .u8 (g 5), .int .u8 (g 6), .int .u8 (g 7)] 8 hb (by decide) (by rfl)
theorem size_alloc (w : World) (o : Obj) : (w.alloc o).heap.size = w.heap.size + 1 := by simp
set_option maxHeartbeats 8000000 in
theorem fbytes_any (f : FmV) (w : World) :
    Calls Tryz.prog 91 #[formv f] w fun e w' => ∃ T, e = .returned (.slice (some ⟨T, 0, none⟩) 8 8) ∧ OwnB w' w.heap.size (.slice (some ⟨T, 0, none⟩) 8 8) 8 (Rc.fb f) ∧ w.grownBy w' none := by
  unfold formv
  go_enter Tryz.func91, Tryz.ntmps91
  go_wp2
  go_returns
  refine ⟨w.heap.size + 1, rfl, ?_, grown_alloc2 _ _ _⟩
  rw [← size_alloc w]
  refine own8 (by rw [size_alloc]; omega) (Rc.fb f) _ _ _ _ _ _ _ _ rfl rfl rfl rfl ?_ rfl rfl rfl
  show _ = Mm.by8 f.n 0
  unfold Mm.by8
  simp
end Go.Proofs.YtkiockffejlnhaaGreatDoor

/- A region that draws its order, whose head only reads and whose tail is forced: one walk by the cheap step. -/
namespace Go.Proofs.YtkiockffejlnhaaGreatDoor
open Go.RowKit
set_option linter.unusedVariables false
theorem still_of_quiet {P : Program} {ops : Array Oper} {w : World} {Q : Act → Prop} : ∀ (l : List Oper) (a : Act), wpQuiet P ops (fun w' => w' = w) Q l a → wpStill P ops w Q l a
  | [], _, h => h
  | o :: rest, a, h => by
    unfold wpQuiet at h
    unfold wpStill
    split
    · rename_i hw
      rw [if_pos hw] at h
      obtain ⟨v, h1, h2⟩ := h
      have h3 := h1 w rfl
      have h4 := still_of_quiet rest _ h2
      unfold Oper.quietAt at h3
      unfold Oper.still
      generalize (execOp a.eval o).run P w = r at h3
      match r, h3 with
      | .ok (.value u) w', h3 => obtain ⟨e1, e2⟩ := h3; exact ⟨e1, by rw [e2]; exact h4⟩
      | .ok .skip w', h3 => obtain ⟨e1, e2⟩ := h3; exact ⟨e1, by rw [← e2]; exact h4⟩
      | .ok (.enter f args) w', h3 => obtain ⟨e1, e2⟩ := h3; exact ⟨e1, v, e2, h4⟩
    · rename_i hw
      rw [if_neg hw] at h
      exact still_of_quiet rest _ h
theorem tail_quiet {P : Program} {id : Nat} {Q : Exit → Act → World → Prop} {a : Act} {w : World} {l : List Oper} (n : Nat) (hm : P.follows .mixedOrders = true) (hB : Region.lexTailB .any l.toArray n = true)
    (h : wpQuiet P l.toArray (fun w' => w' = w.drew) (fun a' => wpList P l.toArray Q (l.drop n) a' w.drew) (l.take n) a) : (Code.region id l.toArray true).wp P Q a w :=
  tail_drew n hm hB (still_of_quiet _ _ h)
structure Gw (W : World) where
  w : World
  h : W.grownBy w none
theorem region_grown {P : Program} {id : Nat} {Q : Exit → Act → World → Prop} {a : Act} {w : World} {l : List Oper} (hm : P.follows .mixedOrders = true) (hB : Region.lexB .any l.toArray = true)
    (h : wpQuiet P l.toArray (fun w' => ∃ x : Gw w, w' = x.w) (fun a' => ∀ w', (∃ x : Gw w, w' = x.w) → Q .normal a' w') l a) : (Code.region id l.toArray true).wp P Q a w :=
  wp_region_quiet (C := fun w' => ∃ x : Gw w, w' = x.w) hm hB ⟨⟨w.drew, grown_drew (World.grownBy.refl _ _)⟩, rfl⟩ (by simpa using h)
theorem Gw.call {P : Program} {f : FuncId} {args : Array Value} {W : World} {x : Gw W} {v : Value}
    (h : Calls P f args x.w fun e w' => e = .returned v ∧ x.w.grownBy w' none) : Calls P f args x.w fun e w'' => e = .returned v ∧ ∃ y : Gw W, w'' = y.w :=
  h.mono fun _ w'' ⟨he, hg⟩ => ⟨he, ⟨w'', grown_trans x.h hg⟩, rfl⟩
end Go.Proofs.YtkiockffejlnhaaGreatDoor

/- risc.formOf: its contract. -/
namespace Go.Proofs.YtkiockffejlnhaaGreatDoor
open Go.RowKit
set_option linter.unusedVariables false
namespace Rc
def fo (g : Nat → Int) : FmV := ⟨g 0, g 1, g 2, g 3, s32 (Mm.ld g 4 4)⟩
theorem s32_rng (u : Int) : -2147483648 ≤ s32 u ∧ s32 u < 2147483648 := by unfold s32; omega
theorem u32_ld {g : Nat → Int} (hg : Mm.Fit g) : bits .or .u32 (bits .or .u32 (bits .or .u32 (g 4 % 4294967296) (g 5 % 4294967296 * 256 % 4294967296)) (g 6 % 4294967296 * 65536 % 4294967296)) (g 7 % 4294967296 * 16777216 % 4294967296) = Mm.ld g 4 4 := by
  have h4 := hg 4
  have h5 := hg 5
  have h6 := hg 6
  have h7 := hg 7
  have e : Mm.ld g 4 4 = g 4 + g 5 * 2 ^ 8 + g 6 * 2 ^ 16 + g 7 * 2 ^ 24 := by
    show 0 + g 4 * 1 + g 5 * 256 + g 6 * 65536 + g 7 * 16777216 = _
    omega
  rw [e, show g 4 % 4294967296 = g 4 by omega, show g 5 % 4294967296 * 256 % 4294967296 = g 5 * 2 ^ 8 by omega, show g 6 % 4294967296 * 65536 % 4294967296 = g 6 * 2 ^ 16 by omega, show g 7 % 4294967296 * 16777216 % 4294967296 = g 7 * 2 ^ 24 by omega]
  have b : ((2 : Int) ^ IntKind.u32.bits) = 4294967296 := rfl
  have o1 : bits .or .u32 (g 4) (g 5 * 2 ^ 8) = g 4 + g 5 * 2 ^ 8 := Mm.or_high rfl (by omega) (by omega) (by omega) (by omega)
  have o2 : bits .or .u32 (g 4 + g 5 * 2 ^ 8) (g 6 * 2 ^ 16) = g 4 + g 5 * 2 ^ 8 + g 6 * 2 ^ 16 := Mm.or_high rfl (by omega) (by omega) (by omega) (by omega)
  have o3 : bits .or .u32 (g 4 + g 5 * 2 ^ 8 + g 6 * 2 ^ 16) (g 7 * 2 ^ 24) = g 4 + g 5 * 2 ^ 8 + g 6 * 2 ^ 16 + g 7 * 2 ^ 24 := Mm.or_high rfl (by omega) (by omega) (by omega) (by omega)
  rw [o1, o2, o3]
end Rc
theorem wrap64_byte {x : Int} (h1 : 0 ≤ x) (h2 : x < 256) : wrap64 x = x := by unfold wrap64; omega
theorem wrap_s32 (x : Int) : wrap64 (wrap32 x) = Rc.s32 x := by unfold wrap64 wrap32 Rc.s32; omega
set_option maxHeartbeats 8000000 in
theorem formOf_any (b off n cap : Nat) (g : Nat → Int) (w : World) (hn : 8 ≤ n) (hnc : n ≤ cap) (hg : Mm.Fit g) (hc : ∀ i, i < n → w.cell? ⟨b, off + i, none⟩ = some (.int .u8 (g i))) :
    Calls Tryz.prog 55 #[.slice (some ⟨b, off, none⟩) n cap] w fun e w' => e = .returned (formv (Rc.fo g)) ∧ w.grownBy w' none := by
  have hi : ∀ j : Int, j < 8 → j < (n : Int) := fun j h => by omega
  have l0 := hi 0 (by decide)
  have l1 := hi 1 (by decide)
  have l2 := hi 2 (by decide)
  have l3 := hi 3 (by decide)
  have l4 := hi 4 (by decide)
  have l5 := hi 5 (by decide)
  have l6 := hi 6 (by decide)
  have l7 := hi 7 (by decide)
  have c0 : w.cell? ⟨b, off, none⟩ = some (.int .u8 (g 0)) := hc 0 (by omega)
  have c1 := hc 1 (by omega)
  have c2 := hc 2 (by omega)
  have c3 := hc 3 (by omega)
  have c4 := hc 4 (by omega)
  have c5 := hc 5 (by omega)
  have c6 := hc 6 (by omega)
  have c7 := hc 7 (by omega)
  have d0 : (w.alloc (Obj.cells #[.int .i64 0, .int .i64 0, .int .i64 0, .int .i64 0, .int .i64 0] 97)).cell? ⟨b, off, none⟩ = some (.int .u8 (g 0)) := (World.grownBy_alloc w (Obj.cells #[.int .i64 0, .int .i64 0, .int .i64 0, .int .i64 0, .int .i64 0] 97) none).cell c0 (by simp)
  have d1 : (w.alloc (Obj.cells #[.int .i64 0, .int .i64 0, .int .i64 0, .int .i64 0, .int .i64 0] 97)).cell? ⟨b, off + 1, none⟩ = some (.int .u8 (g 1)) := (World.grownBy_alloc w (Obj.cells #[.int .i64 0, .int .i64 0, .int .i64 0, .int .i64 0, .int .i64 0] 97) none).cell c1 (by simp)
  have d2 : (w.alloc (Obj.cells #[.int .i64 0, .int .i64 0, .int .i64 0, .int .i64 0, .int .i64 0] 97)).cell? ⟨b, off + 2, none⟩ = some (.int .u8 (g 2)) := (World.grownBy_alloc w (Obj.cells #[.int .i64 0, .int .i64 0, .int .i64 0, .int .i64 0, .int .i64 0] 97) none).cell c2 (by simp)
  have d3 : (w.alloc (Obj.cells #[.int .i64 0, .int .i64 0, .int .i64 0, .int .i64 0, .int .i64 0] 97)).cell? ⟨b, off + 3, none⟩ = some (.int .u8 (g 3)) := (World.grownBy_alloc w (Obj.cells #[.int .i64 0, .int .i64 0, .int .i64 0, .int .i64 0, .int .i64 0] 97) none).cell c3 (by simp)
  have d4 : (w.alloc (Obj.cells #[.int .i64 0, .int .i64 0, .int .i64 0, .int .i64 0, .int .i64 0] 97)).cell? ⟨b, off + 4, none⟩ = some (.int .u8 (g 4)) := (World.grownBy_alloc w (Obj.cells #[.int .i64 0, .int .i64 0, .int .i64 0, .int .i64 0, .int .i64 0] 97) none).cell c4 (by simp)
  have d5 : (w.alloc (Obj.cells #[.int .i64 0, .int .i64 0, .int .i64 0, .int .i64 0, .int .i64 0] 97)).cell? ⟨b, off + 5, none⟩ = some (.int .u8 (g 5)) := (World.grownBy_alloc w (Obj.cells #[.int .i64 0, .int .i64 0, .int .i64 0, .int .i64 0, .int .i64 0] 97) none).cell c5 (by simp)
  have d6 : (w.alloc (Obj.cells #[.int .i64 0, .int .i64 0, .int .i64 0, .int .i64 0, .int .i64 0] 97)).cell? ⟨b, off + 6, none⟩ = some (.int .u8 (g 6)) := (World.grownBy_alloc w (Obj.cells #[.int .i64 0, .int .i64 0, .int .i64 0, .int .i64 0, .int .i64 0] 97) none).cell c6 (by simp)
  have d7 : (w.alloc (Obj.cells #[.int .i64 0, .int .i64 0, .int .i64 0, .int .i64 0, .int .i64 0] 97)).cell? ⟨b, off + 7, none⟩ = some (.int .u8 (g 7)) := (World.grownBy_alloc w (Obj.cells #[.int .i64 0, .int .i64 0, .int .i64 0, .int .i64 0, .int .i64 0] 97) none).cell c7 (by simp)
  clear hi hc
  go_enter Tryz.func55, Tryz.ntmps55
  go_wp2_with fail
  go_quiet (fail)
  rw [Rc.u32_ld hg]
  go_wp2_with fail
  refine tail_quiet 20 (by kernel_rfl) (by kernel_rfl) ?_
  simp only [List.take_succ_cons, List.take_zero, List.drop_succ_cons, List.drop_zero]
  repeat (go_big_quiet_step (fail))
  refine wpQuiet_nil ?_
  go_wp2
  go_returns
  obtain ⟨g0, g0'⟩ := hg 0
  obtain ⟨g1, g1'⟩ := hg 1
  obtain ⟨g2, g2'⟩ := hg 2
  obtain ⟨g3, g3'⟩ := hg 3
  refine ⟨?_, ?_⟩
  · unfold formv Rc.fo
    dsimp only
    rw [wrap64_byte g0 g0', wrap64_byte g1 g1', wrap64_byte g2 g2', wrap64_byte g3 g3', wrap_s32]
  · exact grown_two (grown_drewN (World.grownBy_alloc _ _ _) _) (grown_trans (grown_trans (grown_trans (grown_trans (grown_setCell _ _ _ _) (grown_setCell _ _ _ _)) (grown_setCell _ _ _ _)) (grown_setCell _ _ _ _)) (grown_setCell _ _ _ _)) (Nat.le_refl _)
end Go.Proofs.YtkiockffejlnhaaGreatDoor

/- What eight bytes are told to be: plain; and how worlds grow. -/
namespace Go.Proofs.YtkiockffejlnhaaGreatDoor
open Go.RowKit
set_option linter.unusedVariables false
def zeroI : InV := ⟨0, 0, 0, 0, 0, 0, 0, 0, 0⟩
namespace Rc
def dv (g : Nat → Int) : InV := if okB g then rd g else zeroI
theorem rd_1 {g : Nat → Int} (h : g 0 = 4 ∨ g 0 = 7 ∨ g 0 = 8) : rd g = ⟨g 0, g 1, g 2, g 3, s32 (Mm.ld g 4 4) % 256, s32 (Mm.ld g 4 4) / 256, 0, 0, 0⟩ := by unfold rd; rw [if_pos h]
theorem rd_2 {g : Nat → Int} (h : g 0 = 11 ∨ g 0 = 13) : rd g = ⟨g 0, g 1, g 2, 0, g 3, 0, 0, s32 (Mm.ld g 4 4), 0⟩ := by unfold rd; rw [if_neg (by omega), if_pos h]
theorem rd_3 {g : Nat → Int} (h : ¬ (g 0 = 4 ∨ g 0 = 7 ∨ g 0 = 8)) (h' : ¬ (g 0 = 11 ∨ g 0 = 13)) : rd g = ⟨g 0, g 1, g 2, g 3, 0, 0, 0, s32 (Mm.ld g 4 4), 0⟩ := by unfold rd; rw [if_neg h, if_neg h']
end Rc
end Go.Proofs.YtkiockffejlnhaaGreatDoor

/- An instruction that lies in a block of its own. -/
namespace Go.Proofs.YtkiockffejlnhaaGreatDoor
open Go.RowKit
set_option linter.unusedVariables false
structure InstAt (W : World) (B : Nat) (v : InV) : Prop where
  c0 : W.cell? ⟨B, 0, none⟩ = some (.int .i64 v.op)
  c1 : W.cell? ⟨B, 1, none⟩ = some (.int .i64 v.a)
  c2 : W.cell? ⟨B, 2, none⟩ = some (.int .i64 v.b)
  c3 : W.cell? ⟨B, 3, none⟩ = some (.int .i64 v.c)
  c4 : W.cell? ⟨B, 4, none⟩ = some (.int .i64 v.k)
  c5 : W.cell? ⟨B, 5, none⟩ = some (.int .i64 v.sub)
  c6 : W.cell? ⟨B, 6, none⟩ = some (.int .i64 v.scale)
  c7 : W.cell? ⟨B, 7, none⟩ = some (.int .i64 v.imm)
  c8 : W.cell? ⟨B, 8, none⟩ = some (.int .i64 v.label)
  fz : ∀ k, W.frozen? ⟨B, k, none⟩ = false
theorem InstAt.lt {W : World} {B : Nat} {v : InV} (h : InstAt W B v) : B < W.heap.size := World.block_lt_of_cell? _ _ h.c0
theorem InstAt.new (W : World) (v : InV) : InstAt (W.alloc (.cells #[.int .i64 v.op, .int .i64 v.a, .int .i64 v.b, .int .i64 v.c, .int .i64 v.k, .int .i64 v.sub, .int .i64 v.scale, .int .i64 v.imm, .int .i64 v.label] 50)) W.heap.size v := by
  constructor <;> intros <;> simp
theorem InstAt.kept {W W' : World} {B : Nat} {v : InV} {row : Option Nat} (h : InstAt W B v) (hg : W.grownBy W' row) (hne : some B ≠ row) : InstAt W' B v :=
  ⟨hg.cell h.c0 hne, hg.cell h.c1 hne, hg.cell h.c2 hne, hg.cell h.c3 hne, hg.cell h.c4 hne, hg.cell h.c5 hne, hg.cell h.c6 hne, hg.cell h.c7 hne, hg.cell h.c8 hne, fun k => (hg.frozen_far ⟨B, k, none⟩ h.lt hne).trans (h.fz k)⟩
theorem InstAt.below {W W' : World} {B N : Nat} {v : InV} (h : InstAt W B v) (hg : Below N W W') (hb : B < N) : InstAt W' B v :=
  ⟨(hg.cell (p := ⟨B, 0, none⟩) hb).trans h.c0, (hg.cell (p := ⟨B, 1, none⟩) hb).trans h.c1, (hg.cell (p := ⟨B, 2, none⟩) hb).trans h.c2, (hg.cell (p := ⟨B, 3, none⟩) hb).trans h.c3, (hg.cell (p := ⟨B, 4, none⟩) hb).trans h.c4, (hg.cell (p := ⟨B, 5, none⟩) hb).trans h.c5, (hg.cell (p := ⟨B, 6, none⟩) hb).trans h.c6, (hg.cell (p := ⟨B, 7, none⟩) hb).trans h.c7, (hg.cell (p := ⟨B, 8, none⟩) hb).trans h.c8, fun k => (hg.frozen (p := ⟨B, k, none⟩) hb).trans (h.fz k)⟩
theorem InstAt.drewN {W : World} {B : Nat} {v : InV} (h : InstAt W B v) (n : Nat) : InstAt (W.drewN n) B v := h.kept (grown_drewN (World.grownBy.refl _ none) n) (by simp)
theorem InstAt.set3 {W : World} {B : Nat} {v : InV} (h : InstAt W B v) (x : Int) : InstAt (W.setCell ⟨B, 3, none⟩ (.int .i64 x)) B { v with c := x } :=
  ⟨(World.cell?_setCell_other _ _ _ _ (by simp)).trans h.c0, (World.cell?_setCell_other _ _ _ _ (by simp)).trans h.c1, (World.cell?_setCell_other _ _ _ _ (by simp)).trans h.c2, World.cell?_setCell_same _ _ _ h.c3, (World.cell?_setCell_other _ _ _ _ (by simp)).trans h.c4, (World.cell?_setCell_other _ _ _ _ (by simp)).trans h.c5, (World.cell?_setCell_other _ _ _ _ (by simp)).trans h.c6, (World.cell?_setCell_other _ _ _ _ (by simp)).trans h.c7, (World.cell?_setCell_other _ _ _ _ (by simp)).trans h.c8, fun j => (World.frozen?_setCell _ _ _ _).trans (h.fz j)⟩
theorem InstAt.set4 {W : World} {B : Nat} {v : InV} (h : InstAt W B v) (x : Int) : InstAt (W.setCell ⟨B, 4, none⟩ (.int .i64 x)) B { v with k := x } :=
  ⟨(World.cell?_setCell_other _ _ _ _ (by simp)).trans h.c0, (World.cell?_setCell_other _ _ _ _ (by simp)).trans h.c1, (World.cell?_setCell_other _ _ _ _ (by simp)).trans h.c2, (World.cell?_setCell_other _ _ _ _ (by simp)).trans h.c3, World.cell?_setCell_same _ _ _ h.c4, (World.cell?_setCell_other _ _ _ _ (by simp)).trans h.c5, (World.cell?_setCell_other _ _ _ _ (by simp)).trans h.c6, (World.cell?_setCell_other _ _ _ _ (by simp)).trans h.c7, (World.cell?_setCell_other _ _ _ _ (by simp)).trans h.c8, fun j => (World.frozen?_setCell _ _ _ _).trans (h.fz j)⟩
theorem InstAt.set5 {W : World} {B : Nat} {v : InV} (h : InstAt W B v) (x : Int) : InstAt (W.setCell ⟨B, 5, none⟩ (.int .i64 x)) B { v with sub := x } :=
  ⟨(World.cell?_setCell_other _ _ _ _ (by simp)).trans h.c0, (World.cell?_setCell_other _ _ _ _ (by simp)).trans h.c1, (World.cell?_setCell_other _ _ _ _ (by simp)).trans h.c2, (World.cell?_setCell_other _ _ _ _ (by simp)).trans h.c3, (World.cell?_setCell_other _ _ _ _ (by simp)).trans h.c4, World.cell?_setCell_same _ _ _ h.c5, (World.cell?_setCell_other _ _ _ _ (by simp)).trans h.c6, (World.cell?_setCell_other _ _ _ _ (by simp)).trans h.c7, (World.cell?_setCell_other _ _ _ _ (by simp)).trans h.c8, fun j => (World.frozen?_setCell _ _ _ _).trans (h.fz j)⟩
theorem InstAt.set7 {W : World} {B : Nat} {v : InV} (h : InstAt W B v) (x : Int) : InstAt (W.setCell ⟨B, 7, none⟩ (.int .i64 x)) B { v with imm := x } :=
  ⟨(World.cell?_setCell_other _ _ _ _ (by simp)).trans h.c0, (World.cell?_setCell_other _ _ _ _ (by simp)).trans h.c1, (World.cell?_setCell_other _ _ _ _ (by simp)).trans h.c2, (World.cell?_setCell_other _ _ _ _ (by simp)).trans h.c3, (World.cell?_setCell_other _ _ _ _ (by simp)).trans h.c4, (World.cell?_setCell_other _ _ _ _ (by simp)).trans h.c5, (World.cell?_setCell_other _ _ _ _ (by simp)).trans h.c6, World.cell?_setCell_same _ _ _ h.c7, (World.cell?_setCell_other _ _ _ _ (by simp)).trans h.c8, fun j => (World.frozen?_setCell _ _ _ _).trans (h.fz j)⟩
end Go.Proofs.YtkiockffejlnhaaGreatDoor

/- Instructions that came in: a slice of them, opened; bytes of one's own compared. -/
namespace Go.Proofs.YtkiockffejlnhaaGreatDoor
open Go.RowKit
set_option linter.unusedVariables false
structure InAt (w : World) (b o : Nat) (v : InV) : Prop where
  c0 : w.cell? ⟨b, o, none⟩ = some (.int .i64 v.op)
  c1 : w.cell? ⟨b, o + 1, none⟩ = some (.int .i64 v.a)
  c2 : w.cell? ⟨b, o + 2, none⟩ = some (.int .i64 v.b)
  c3 : w.cell? ⟨b, o + 3, none⟩ = some (.int .i64 v.c)
  c4 : w.cell? ⟨b, o + 4, none⟩ = some (.int .i64 v.k)
  c5 : w.cell? ⟨b, o + 5, none⟩ = some (.int .i64 v.sub)
  c6 : w.cell? ⟨b, o + 6, none⟩ = some (.int .i64 v.scale)
  c7 : w.cell? ⟨b, o + 7, none⟩ = some (.int .i64 v.imm)
  c8 : w.cell? ⟨b, o + 8, none⟩ = some (.int .i64 v.label)
theorem InAt.kept {w w' : World} {b o : Nat} {v : InV} {row : Option Nat} (h : InAt w b o v) (hg : w.grownBy w' row) (hne : some b ≠ row) : InAt w' b o v :=
  ⟨hg.cell h.c0 hne, hg.cell h.c1 hne, hg.cell h.c2 hne, hg.cell h.c3 hne, hg.cell h.c4 hne, hg.cell h.c5 hne, hg.cell h.c6 hne, hg.cell h.c7 hne, hg.cell h.c8 hne⟩
theorem InAt.below {w w' : World} {b o N : Nat} {v : InV} (h : InAt w b o v) (hg : Below N w w') (hb : b < N) : InAt w' b o v :=
  ⟨(hg.cell (p := ⟨b, o, none⟩) hb).trans h.c0, (hg.cell (p := ⟨b, o + 1, none⟩) hb).trans h.c1, (hg.cell (p := ⟨b, o + 2, none⟩) hb).trans h.c2, (hg.cell (p := ⟨b, o + 3, none⟩) hb).trans h.c3, (hg.cell (p := ⟨b, o + 4, none⟩) hb).trans h.c4, (hg.cell (p := ⟨b, o + 5, none⟩) hb).trans h.c5, (hg.cell (p := ⟨b, o + 6, none⟩) hb).trans h.c6, (hg.cell (p := ⟨b, o + 7, none⟩) hb).trans h.c7, (hg.cell (p := ⟨b, o + 8, none⟩) hb).trans h.c8⟩
end Go.Proofs.YtkiockffejlnhaaGreatDoor

/- Rows of bytes that came in: opened. -/
namespace Go.Proofs.YtkiockffejlnhaaGreatDoor
open Go.RowKit
set_option linter.unusedVariables false
structure BsIn (W : World) (ao : Option Addr) (len cap : Nat) (g : Nat → Int) : Prop where
  nil : ao = none → len = 0 ∧ cap = 0
  le : len ≤ cap
  max : cap ≤ maxLen
  fit : Mm.Fit g
  bs : Bs W ao len g
  lt : ∀ b off, 0 < len → ao = some ⟨b, off, none⟩ → b < W.heap.size
theorem open_bytes {H : Type} {enc : TypeId × Value → H} {W : World} {spare : Nat → Bool} {held : Bool} {fuel : Nat} {cs : List Value} {x : DataW H × List MemPlace}
    (h : DataW.trod enc Tryz.prog W 0 spare held fuel 24 cs = some x) : ∃ ao len cap g, cs = [.slice ao len cap] ∧ BsIn W ao len cap g := by
  have ce : Tryz.prog.cellsOf 5 = 1 := by kernel_rfl
  rcases Go.Deep.open_slice1 Tryz.underlying24 ce h with ⟨hcs, _⟩ | ⟨a, len, cap, m, n, V, D, Pl, hcs, hb, hl, hm, hmm, _, hx⟩
  · exact ⟨none, 0, 0, fun _ => 0, hcs, ⟨fun _ => ⟨rfl, rfl⟩, Nat.le_refl _, Nat.zero_le _, fun _ => by omega, .inl rfl, fun _ _ h => by omega⟩⟩
  · have hlm : len ≤ m := by rw [hmm]; split <;> omega
    have each : ∀ i, i < len → ∃ z : Int, V i = .int .u8 z ∧ 0 ≤ z ∧ z < 256 := by
      intro i hi
      obtain ⟨_, h2⟩ := hx i (by omega)
      obtain ⟨z, e, _, f⟩ := DataW.trod_int Tryz.underlying5 h2
      simp at e
      have f := bounds_u8 f
      exact ⟨z, e, by omega, by omega⟩
    by_cases h0 : len = 0
    · subst h0
      exact ⟨some a, 0, cap, fun _ => 0, hcs, ⟨(fun h => by cases h), hl, hm, fun _ => by omega, .inl rfl, fun _ _ h => by omega⟩⟩
    obtain ⟨b, off, spot⟩ := a
    obtain ⟨c0, _⟩ := hx 0 (by omega)
    have c0 : W.cell? ⟨b, off, spot⟩ = some (V 0) := by simpa [Addr.add] using c0
    obtain rfl : spot = none := World.cell?_spot c0
    have hlt := World.block_lt_of_cell? _ _ c0
    refine ⟨some ⟨b, off, none⟩, len, cap, fun i => if h : i < len then Classical.choose (each i h) else 0, hcs, ⟨(fun h => by cases h), hl, hm, fun i => ?_, .inr ⟨b, off, rfl, fun i hi => ?_⟩, fun b' off' _ e => ?_⟩⟩
    · by_cases h : i < len
      · simp only [dif_pos h]; exact (Classical.choose_spec (each i h)).2
      · simp only [dif_neg h]; omega
    · simp only [dif_pos hi]
      rw [← (Classical.choose_spec (each i hi)).1, ← add_none]
      exact (hx i (by omega)).1
    · injection e with e
      injection e with e
      subst e
      exact hlt
theorem BsIn.below {W W' : World} {ao : Option Addr} {n cap N : Nat} {g : Nat → Int} (h : BsIn W ao n cap g) (hg : Below N W W') (hN : N = W.heap.size) : BsIn W' ao n cap g := by
  refine ⟨h.nil, h.le, h.max, h.fit, ?_, fun b off h0 e => Nat.lt_of_lt_of_le (h.lt b off h0 e) hg.size⟩
  rcases h.bs with h0 | ⟨b, off, e, hc⟩
  · exact .inl h0
  · by_cases h0 : n = 0
    · exact .inl h0
    · exact .inr ⟨b, off, e, fun i hi => (hg.cell (p := ⟨b, off + i, none⟩) (by rw [hN]; exact h.lt b off (by omega) e)).trans (hc i hi)⟩
theorem BsIn.kept {W W' : World} {ao : Option Addr} {n cap : Nat} {g : Nat → Int} (h : BsIn W ao n cap g) (hg : W.grownBy W' none) : BsIn W' ao n cap g := by
  refine ⟨h.nil, h.le, h.max, h.fit, ?_, fun b off h0 e => Nat.lt_of_lt_of_le (h.lt b off h0 e) hg.size⟩
  rcases h.bs with h0 | ⟨b, off, e, hc⟩
  · exact .inl h0
  · exact .inr ⟨b, off, e, fun i hi => hg.cell (hc i hi) (by simp)⟩
theorem own_slice {w : World} {base n : Nat} {x : Value} {g : Nat → Int} (h : OwnB w base x n g) (hn : 0 < n) : ∃ T cap, x = .slice (some ⟨T, 0, none⟩) n cap ∧ n ≤ cap ∧ base ≤ T := by
  rcases h.2 with ⟨_, h0⟩ | ⟨T, cap, cur, rfl, hb, _, hc, _⟩
  · omega
  · exact ⟨T, cap, rfl, hc, hb⟩
theorem Bs.kept {w w' : World} {ao : Option Addr} {n : Nat} {g : Nat → Int} (h : Bs w ao n g) (hg : w.grownBy w' none) : Bs w' ao n g := by
  rcases h with h | ⟨b, off, e, hc⟩
  · exact .inl h
  · exact .inr ⟨b, off, e, fun i hi => hg.cell (hc i hi) (by simp)⟩
end Go.Proofs.YtkiockffejlnhaaGreatDoor

/- Instructions of C64 by the page's rows, as plain functions on integers: which there are, their bytes, and back. No Go here. -/
namespace Go.Proofs.YtkiockffejlnhaaGreatDoor
set_option linter.unusedVariables false
namespace Cc
def row (op : Int) : List Int :=
  if op = 1 then [110, 105] else if op = 3 ∨ op = 26 ∨ op = 27 ∨ op = 28 then [97] else if op = 4 ∨ op = 7 ∨ op = 8 then [97, 75, 83] else if op = 5 then [110, 75, 83, 105]
  else if op = 6 then [97, 75, 83, 52] else if op = 10 then [97, 99, 52] else if op = 11 ∨ op = 13 then [97, 75, 52] else if op = 12 ∨ op = 14 then [97, 99, 75, 52]
  else if op = 15 ∨ op = 18 then [97, 83] else if op = 16 then [97, 75] else if op = 17 then [110, 75, 105] else if op = 19 then [106, 105] else if op = 22 then [74, 105]
  else if op = 23 ∨ op = 25 ∨ op = 29 then [52] else if op = 24 then [45] else []
def useL (op l c : Int) : Bool :=
  if l = 97 then c == 65 || (c == 66 && op != 7 && op != 27 && op != 28 && op != 18) else if l = 110 then c == 65 else if l = 99 then c == 67 else if l = 75 then c == 75
  else if l = 83 ∨ l = 74 then c == 83 else if l = 105 ∨ l = 52 then c == 73 else false
def usesB (op c : Int) : Bool := (row op).any fun l => useL op l c
def immB (sub k n : Int) : Bool :=
  Wd.intB k && Wd.hasBinB sub k && sub != 4 && sub != 5 && Rc.smallB n && (Rc.s32 (Wd.canon (if Wd.shB sub then 9 else k) (n % 18446744073709551616)) == n)
def binB (v : InV) : Bool :=
  Wd.hasBinB v.sub v.k && (if Wd.shB v.sub then v.b == 1 && v.a != 1 else if Wd.intB v.k && (v.sub == 4 || v.sub == 5) then v.a == 0 && v.b != 0 && v.b != 2 else true)
def sclB (v : InV) : Bool := v.scale == 1 || v.scale == 2 || v.scale == 4 || v.scale == 8 || (v.scale == 0 && v.c == 0 && v.op == 10)
def kindB (v : InV) : Bool :=
  if v.op = 4 then binB v else if v.op = 5 then immB v.sub v.k v.imm else if v.op = 6 then Wd.hasBinB v.sub v.k && !Wd.shB v.sub && (!Wd.intB v.k || (v.sub != 4 && v.sub != 5))
  else if v.op = 7 then Wd.hasUnB v.sub v.k else if v.op = 8 then Wd.numB v.sub && Wd.numB v.k else if v.op = 10 then sclB v else if v.op = 12 ∨ v.op = 14 then sclB v && Wd.wordB v.k
  else if v.op = 11 ∨ v.op = 13 ∨ v.op = 16 then Wd.wordB v.k else if v.op = 17 then immB 2 v.k v.imm else if v.op = 15 ∨ v.op = 18 ∨ v.op = 22 then Wd.cmpB v.sub
  else if v.op = 25 then decide (0 ≤ v.imm) else if v.op = 29 then decide (0 < v.imm) else true
def mayB (v : InV) : Bool :=
  !(row v.op).isEmpty && v.label == 0 && Rc.regB v.a && Rc.regB v.b && Rc.regB v.c && (usesB v.op 65 || v.a == 0) && (usesB v.op 66 || v.b == 0) && (usesB v.op 67 || (v.c == 0 && v.scale == 0)) &&
  (usesB v.op 75 || v.k == 0) && (usesB v.op 83 || v.sub == 0) && (usesB v.op 73 || v.imm == 0) && (v.op == 1 || Rc.smallB v.imm) && kindB v
def size (n : Int) : Int := if -128 ≤ n ∧ n < 128 then 0 else if -2147483648 ≤ n ∧ n < 2147483648 then 1 else 2
def cnt (s : Int) : Nat := if s = 0 then 1 else if s = 1 then 4 else 8
def lg (s : Int) : Int := if s = 1 then 0 else if s = 2 then 1 else if s = 4 then 2 else if s = 8 then 3 else 15
def low (n : Int) (c : Nat) : List Int := (List.range c).map (Mm.by8 (n % 18446744073709551616))
def letB (v : InV) (l : Int) : List Int :=
  if l = 97 then [(16 * v.a + v.b) % 256] else if l = 110 then [(16 * v.a + size v.imm) % 256] else if l = 106 then [size v.imm % 256] else if l = 74 then [(16 * (v.sub - 11) + size v.imm) % 256]
  else if l = 99 then [(16 * v.c + lg v.scale) % 256] else if l = 75 then [v.k % 256] else if l = 83 then [v.sub % 256] else if l = 105 then low v.imm (cnt (size v.imm)) else if l = 52 then low v.imm 4 else []
def enc (v : InV) : List Int := v.op % 256 :: (row v.op).flatMap (letB v)
def num (g : Nat → Int) (at' c : Nat) : Int :=
  if c = 1 then (Mm.ld g at' 1 + 128) % 256 - 128 else if c = 4 then Rc.s32 (Mm.ld g at' 4) else Wd.sg (Mm.ld g at' 8)
def scl (n : Int) : Int := if n = 0 then 1 else if n = 1 then 2 else if n = 2 then 4 else if n = 3 then 8 else if n = 15 then 0 else -1
def lcnt (l s : Int) : Nat := if l = 105 then cnt s else if l = 52 then 4 else 1
def lset (l : Int) (v : InV) (x y : Int) : InV :=
  if l = 97 then { v with a := x / 16, b := x % 16 } else if l = 110 then { v with a := x / 16 } else if l = 106 then v else if l = 74 then { v with sub := x / 16 + 11 }
  else if l = 99 then { v with c := x / 16, scale := scl (x % 16) } else if l = 75 then { v with k := x } else if l = 83 then { v with sub := x } else { v with imm := y }
def lsz (l s x : Int) : Int := if l = 110 ∨ l = 74 then x % 16 else if l = 106 then x else s
def rdL (N : Nat) (g : Nat → Int) : List Int → InV → Int → Nat → InV × Int
  | [], v, _, p => (v, p)
  | l :: s, v, z, p =>
    if N < p + lcnt l z then (v, 0)
    else if 2 < lsz l z (g p) ∨ (lsz l z (g p) = 2 ∧ v.op ≠ 1) then (lset l v (g p) (num g p (lcnt l z)), -1)
    else rdL N g s (lset l v (g p) (num g p (lcnt l z))) (lsz l z (g p)) (p + lcnt l z)
def rrow (op : Int) : List Int := if op = 24 then [] else row op
def read (N : Nat) (g : Nat → Int) : InV × Int := rdL N g (rrow (g 0)) ⟨g 0, 0, 0, 0, 0, 0, 0, 0, 0⟩ 0 1
def zero : InV := ⟨0, 0, 0, 0, 0, 0, 0, 0, 0⟩
def startsB (l : List Int) (g : Nat → Int) : Bool := decide (∀ i, i < l.length → g i = l.getD i 0)
def dec (N : Nat) (g : Nat → Int) : InV × Int × Int :=
  if N = 0 then (zero, 0, 41) else if (row (g 0)).isEmpty then (zero, 0, 40) else if (read N g).2 = 0 then (zero, 0, 41)
  else if (read N g).2 < 0 ∨ mayB (read N g).1 = false ∨ (((enc (read N g).1).length : Int) ≠ (read N g).2 ∨ startsB (enc (read N g).1) g = false) then (zero, 0, 40) else ((read N g).1, (read N g).2, 0)
theorem rd_congr {N : Nat} {g g' : Nat → Int} (h : ∀ i, i < N → g i = g' i) : ∀ (s : List Int) (v : InV) (z : Int) (p : Nat), rdL N g s v z p = rdL N g' s v z p := by
  intro s
  induction s with
  | nil => intro v z p; rfl
  | cons l s ih =>
    intro v z p
    unfold rdL
    by_cases h1 : N < p + lcnt l z
    · rw [if_pos h1, if_pos h1]
    · have hl : 1 ≤ lcnt l z := by unfold lcnt cnt; repeat' split
                                   all_goals omega
      have e1 : g p = g' p := h p (by omega)
      have e2 : num g p (lcnt l z) = num g' p (lcnt l z) := by
        have hc : ∀ c, c ≤ lcnt l z → Mm.ld g p c = Mm.ld g' p c := fun c hc => Mm.ld_congr fun i hi => h _ (by omega)
        unfold num
        by_cases c1 : lcnt l z = 1
        · rw [if_pos c1, if_pos c1, hc 1 (by omega)]
        · by_cases c4 : lcnt l z = 4
          · rw [if_neg c1, if_neg c1, if_pos c4, if_pos c4, hc 4 (by omega)]
          · have : lcnt l z = 8 := by
              revert c1 c4; unfold lcnt cnt; repeat' split
              all_goals omega
            rw [if_neg c1, if_neg c1, if_neg c4, if_neg c4, hc 8 (by omega)]
      rw [if_neg h1, if_neg h1, e1, e2, ih]
theorem num_low {g : Nat → Int} {p c : Nat} {n : Int} (hc : (c = 1 ∧ -128 ≤ n ∧ n < 128) ∨ (c = 4 ∧ -2147483648 ≤ n ∧ n < 2147483648) ∨ (c = 8 ∧ -9223372036854775808 ≤ n ∧ n ≤ 9223372036854775807)) (h : ∀ i, i < c → g (p + i) = Mm.by8 (n % 18446744073709551616) i) : num g p c = n := by
  have e : Mm.ld g p c = (n % 18446744073709551616) % 256 ^ c := by
    rw [← Mm.ld_by8]
    exact Mm.ld_congr fun i hi => by rw [h i hi, Nat.zero_add]
  unfold num
  rcases hc with ⟨rfl, h1, h2⟩ | ⟨rfl, h1, h2⟩ | ⟨rfl, h1, h2⟩
  · rw [if_pos rfl, e]
    have : (256 : Int) ^ 1 = 256 := rfl
    omega
  · rw [if_neg (by decide), if_pos rfl, e]
    have : (256 : Int) ^ 4 = 4294967296 := rfl
    unfold Rc.s32; omega
  · rw [if_neg (by decide), if_neg (by decide), e]
    have : (256 : Int) ^ 8 = 18446744073709551616 := rfl
    unfold Wd.sg; omega
end Cc
end Go.Proofs.YtkiockffejlnhaaGreatDoor

/- Bytes that a call made itself, as a list. -/
namespace Go.Proofs.YtkiockffejlnhaaGreatDoor
open Go.RowKit
set_option linter.unusedVariables false
def OwnL (w : World) (base : Nat) (v : Value) (l : List Int) : Prop := w.ownsRow base 5 1 v l.length (l.map (Value.int .u8))
theorem bytesL_list (l : List Int) : bytesL l.length (fun i => l.getD i 0) = l.map (Value.int .u8) := by
  refine List.ext_getElem? fun i => ?_
  by_cases hi : i < l.length
  · rw [bytesL_at _ hi, List.getElem?_map, List.getElem?_eq_getElem hi]
    simp [List.getD_eq_getElem?_getD, List.getElem?_eq_getElem hi]
  · rw [List.getElem?_eq_none (by rw [bytesL_len]; omega), List.getElem?_eq_none (by rw [List.length_map]; omega)]
theorem OwnL.toB {w : World} {base : Nat} {v : Value} {l : List Int} (h : OwnL w base v l) : OwnB w base v l.length (fun i => l.getD i 0) := by
  unfold OwnB; rw [bytesL_list]; exact h
theorem OwnB.toL {w : World} {base n : Nat} {v : Value} {g : Nat → Int} (h : OwnB w base v n g) : OwnL w base v ((List.range n).map g) := by
  unfold OwnL
  rw [List.length_map, List.length_range, List.map_map]
  exact h
theorem OwnL.nil (w : World) (base : Nat) : OwnL w base (.slice none 0 0) [] := World.ownsRow_nil _ _ _ _
theorem OwnL.kept {w w' : World} {base : Nat} {v : Value} {l : List Int} {row : Option Nat} (h : OwnL w base v l) (hg : w.grownBy w' row) (hne : v.ownBlock = none ∨ v.ownBlock ≠ row) : OwnL w' base v l := World.ownsRow.kept h hg hne
theorem OwnL.low {w : World} {base base' : Nat} {v : Value} {l : List Int} (h : OwnL w base v l) (hb : base' ≤ base) : OwnL w base' v l := World.ownsRow.mono h hb
theorem OwnL.app {w : World} {base : Nat} {v : Value} {l m : List Int} (h : w.ownsRow base 5 1 v (l.length + m.length) (l.map (Value.int .u8) ++ m.map (Value.int .u8))) : OwnL w base v (l ++ m) := by
  unfold OwnL
  rw [List.length_append, List.map_append]
  exact h
theorem OwnL.one {w : World} {base : Nat} {v : Value} {l : List Int} {x : Int} (h : w.ownsRow base 5 1 v (l.length + 1) (l.map (Value.int .u8) ++ [.int .u8 x])) : OwnL w base v (l ++ [x]) := OwnL.app (m := [x]) h
theorem OwnL.lit (w : World) (base : Nat) (l : List Int) (hb : base ≤ w.heap.size) (hm : l.length ≤ maxLen) : OwnL (w.alloc (.cells (l.map (Value.int .u8)).toArray 5)) base (.slice (some ⟨w.heap.size, 0, none⟩) l.length l.length) l := by
  have := World.ownsRow_lit (base := base) (e := 5) (size := 1) w (l.map (Value.int .u8)).toArray l.length hb hm (by simp)
  simpa [OwnL] using this
namespace Cc
theorem low_zero (n : Int) : low n 0 = [] := rfl
theorem low_succ (n : Int) (c : Nat) : low n (c + 1) = low n c ++ [Mm.by8 (n % 18446744073709551616) c] := by
  unfold low
  rw [List.range_succ, List.map_append]; rfl
theorem low_len (n : Int) (c : Nat) : (low n c).length = c := by unfold low; simp
end Cc
end Go.Proofs.YtkiockffejlnhaaGreatDoor

/- gantryref3.May: its contract. -/
namespace Go.Proofs.YtkiockffejlnhaaGreatDoor
open Go.RowKit
set_option linter.unusedVariables false
namespace Rc
theorem fld_size (o : Int) : (fld o).size ≤ 1000 := by
  unfold fld
  repeat' split
  all_goals decide
def unB (s : ByteArray) (c n : Int) : Bool := hasS s c || n == 0
def kindC (v : InV) : Bool :=
  cond (v.op == 4) (Wd.hasBinB v.sub v.k) (cond (v.op == 7) (Wd.hasUnB v.sub v.k) (cond (v.op == 8) (Wd.numB v.sub && Wd.numB v.k) (cond (v.op == 11) (Wd.wordB v.k) (cond (v.op == 13) (Wd.wordB v.k)
  (cond (v.op == 15) (decide (0 ≤ v.imm) && decide (v.imm < 16)) (cond (v.op == 25) (decide (0 ≤ v.imm)) (cond (v.op == 29) (decide (0 < v.imm)) true)))))))
theorem kind_c (v : InV) : kindB v = kindC v := by
  unfold kindB kindC
  simp only [Bool.cond_eq_ite, beq_iff_eq]
  repeat' split
  all_goals first | rfl | omega
theorem may_un (v : InV) (h : (fld v.op).data.isEmpty = false) : mayB v = (v.scale == 0 && v.label == 0 && regB v.a && regB v.b && regB v.c && smallB v.imm &&
    unB (fld v.op) 65 v.a && unB (fld v.op) 66 v.b && unB (fld v.op) 67 v.c && unB (fld v.op) 75 v.k && unB (fld v.op) 83 v.sub && (hasS (fld v.op) 73 || v.imm == 0) && kindC v) := by
  rw [← kind_c]; unfold mayB unB; rw [h]; rfl
theorem may_no (v : InV) (h : (fld v.op).data.isEmpty = true) : mayB v = false := by
  unfold mayB; rw [h]; rfl
theorem toList_nil (s : ByteArray) : s.toList = s.data.toList := by rw [ByteArray.toList_eq]
end Rc
theorem unusedU (s : ByteArray) (c n : Int) (w : World) (hs : s.size ≤ 1000) :
    Calls Tryz.prog 96 #[.string s, .int .u8 c, .int .i64 n] w fun e w' => e = .returned (.bool (Rc.unB s c n)) ∧ w' = w := unused_any s c n w hs
set_option maxHeartbeats 8000000 in
theorem rmay_empty (v : InV) (w : World) (h1 : (Rc.fld v.op).toList = []) :
    Calls Tryz.prog 68 #[inst v] w fun e w' => e = .returned (.bool false) ∧ w' = w.alloc (Obj.cells #[.int .i64 v.op, .int .i64 v.a, .int .i64 v.b, .int .i64 v.c, .int .i64 v.k, .int .i64 v.sub, .int .i64 v.scale, .int .i64 v.imm, .int .i64 v.label] 50) := by
  unfold inst
  go_enter Tryz.func68, Tryz.ntmps68
  go_wp2_with (go_at_call 94; refine (fields_any _ _).mono ?_; rintro e w' ⟨rfl, rfl⟩)
  go_ret
  exact ⟨rfl, rfl⟩
set_option maxHeartbeats 8000000 in
theorem rmay_full (v : InV) (w : World) (h1 : ((Rc.fld v.op).toList = []) = False) (h2 : (Rc.fld v.op).toList.isEmpty = false) (h3 : ((Rc.fld v.op).toList == []) = false) (h4 : (Rc.fld v.op).data.isEmpty = false) :
    Calls Tryz.prog 68 #[inst v] w fun e w' => e = .returned (.bool (Rc.mayB v)) ∧ w' = w.alloc (Obj.cells #[.int .i64 v.op, .int .i64 v.a, .int .i64 v.b, .int .i64 v.c, .int .i64 v.k, .int .i64 v.sub, .int .i64 v.scale, .int .i64 v.imm, .int .i64 v.label] 50) := by
  have hs := Rc.fld_size v.op
  have HM : Hid (Rc.mayB v = _) := Rc.may_un v h4
  clear h4
  unfold inst
  go_enter Tryz.func68, Tryz.ntmps68
  go_wp2_with (first
    | (go_at_call 94; refine (fields_any _ _).mono ?_; rintro e w' ⟨rfl, rfl⟩)
    | (go_at_call 95; refine (rreg_any _ _).mono ?_; rintro e w' ⟨rfl, rfl⟩)
    | (go_at_call 71; refine (rsmall_any _ _).mono ?_; rintro e w' ⟨rfl, rfl⟩)
    | (go_at_call 96; refine (unusedU _ _ _ _ hs).mono ?_; rintro e w' ⟨rfl, rfl⟩)
    | (go_at_call 97; refine (has_any _ _ _ hs).mono ?_; rintro e w' ⟨rfl, rfl⟩)
    | (go_at_call 98; refine (rhasBin_any _ _ _).mono ?_; rintro e w' ⟨rfl, rfl⟩)
    | (go_at_call 99; refine (rhasUn_any _ _ _).mono ?_; rintro e w' ⟨rfl, rfl⟩)
    | (go_at_call 100; refine (rhasConv_any _ _ _).mono ?_; rintro e w' ⟨rfl, rfl⟩)
    | (go_at_call 101; refine (rword_any _ _).mono ?_; rintro e w' ⟨rfl, rfl⟩))
  all_goals
    go_ret
    refine ⟨ret_bool ?_, by first | rfl | (simp only [*]; done) | (simp [*]; done) | (simp_all; done)⟩
    rw [HM.out]
    generalize Rc.unB (Rc.fld v.op) 65 v.a = u1 at *
    generalize Rc.unB (Rc.fld v.op) 66 v.b = u2 at *
    generalize Rc.unB (Rc.fld v.op) 67 v.c = u3 at *
    generalize Rc.unB (Rc.fld v.op) 75 v.k = u4 at *
    generalize Rc.unB (Rc.fld v.op) 83 v.sub = u5 at *
    generalize Rc.hasS (Rc.fld v.op) 73 = u6 at *
    unfold Rc.kindC
    first | (simp [*]; done) | (simp_all; done) | (simp_all; omega)
theorem rmay_w (v : InV) (w : World) :
    Calls Tryz.prog 68 #[inst v] w fun e w' => e = .returned (.bool (Rc.mayB v)) ∧ w' = w.alloc (Obj.cells #[.int .i64 v.op, .int .i64 v.a, .int .i64 v.b, .int .i64 v.c, .int .i64 v.k, .int .i64 v.sub, .int .i64 v.scale, .int .i64 v.imm, .int .i64 v.label] 50) := by
  have e := Rc.toList_nil (Rc.fld v.op)
  cases h : (Rc.fld v.op).data.isEmpty
  · have h0 : (Rc.fld v.op).toList ≠ [] := by rw [e]; simpa using h
    exact rmay_full v w (eq_false h0) (by simpa using h0) (by simpa using h0) h
  · rw [Rc.may_no v h]
    exact rmay_empty v w (by rw [e]; simpa using h)
theorem rmay_any (v : InV) (w : World) :
    Calls Tryz.prog 68 #[inst v] w fun e w' => e = .returned (.bool (Rc.mayB v)) ∧ w.grownBy w' none :=
  (rmay_w v w).mono fun _ _ ⟨h1, h2⟩ => ⟨h1, h2 ▸ World.grownBy_alloc _ _ _⟩
end Go.Proofs.YtkiockffejlnhaaGreatDoor

/- What is reckoned of two ints: contracts. -/
namespace Go.Proofs.YtkiockffejlnhaaGreatDoor
open Go.RowKit
set_option maxHeartbeats 400000 in
theorem compareU_any (op a b : Int) (w : World) :
    Calls Tryz.prog 151 #[.int .i64 op, .int .u64 a, .int .u64 b] w fun e w' => e = .returned (.int .u64 (Wd.cmpI op a b)) ∧ w' = w := by
  go_enter Tryz.func151, Tryz.ntmps151
  go_wp2
  all_goals (go_ret; refine ⟨ret_u64 ?_, rfl⟩; simp only [beq_iff_eq, beq_eq_false_iff_ne] at *; unfold Wd.cmpI Wd.tr; simp_all <;> omega)
set_option maxHeartbeats 400000 in
theorem compareI_any (op a b : Int) (w : World) :
    Calls Tryz.prog 150 #[.int .i64 op, .int .i64 a, .int .i64 b] w fun e w' => e = .returned (.int .u64 (Wd.cmpI op a b)) ∧ w' = w := by
  go_enter Tryz.func150, Tryz.ntmps150
  go_wp2
  all_goals (go_ret; refine ⟨ret_u64 ?_, rfl⟩; simp only [beq_iff_eq, beq_eq_false_iff_ne] at *; unfold Wd.cmpI Wd.tr; simp_all <;> omega)
end Go.Proofs.YtkiockffejlnhaaGreatDoor

/- binUnsigned, binSigned: contracts. -/
namespace Go.Proofs.YtkiockffejlnhaaGreatDoor
open Go.RowKit
set_option linter.unusedVariables false
theorem ops16 {op : Int} (h1 : 1 ≤ op) (h2 : op ≤ 16) : op = 1 ∨ op = 2 ∨ op = 3 ∨ op = 4 ∨ op = 5 ∨ op = 6 ∨ op = 7 ∨ op = 8 ∨ op = 9 ∨ op = 10 ∨ op = 11 ∨ op = 12 ∨ op = 13 ∨ op = 14 ∨ op = 15 ∨ op = 16 := by omega
theorem wrap_rng (x : Int) : 0 ≤ IntKind.u64.wrap x ∧ IntKind.u64.wrap x < 18446744073709551616 := by rw [IntKind.wrap_u64]; omega
theorem land_lt {a b : Int} (ha : 0 ≤ a) (ha2 : a < 18446744073709551616) (hb : 0 ≤ b) (hb2 : b < 18446744073709551616) : ((a.toNat &&& b.toNat : Nat) : Int) < 18446744073709551616 := by
  have := Nat.and_lt_two_pow (n := 64) a.toNat (y := b.toNat) (by omega); omega
theorem lor_lt {a b : Int} (ha : 0 ≤ a) (ha2 : a < 18446744073709551616) (hb : 0 ≤ b) (hb2 : b < 18446744073709551616) : ((a.toNat ||| b.toNat : Nat) : Int) < 18446744073709551616 := by
  have := Nat.or_lt_two_pow (n := 64) (x := a.toNat) (y := b.toNat) (by omega) (by omega); omega
theorem lxor_lt {a b : Int} (ha : 0 ≤ a) (ha2 : a < 18446744073709551616) (hb : 0 ≤ b) (hb2 : b < 18446744073709551616) : ((a.toNat ^^^ b.toNat : Nat) : Int) < 18446744073709551616 := by
  have := Nat.xor_lt_two_pow (n := 64) (x := a.toNat) (y := b.toNat) (by omega) (by omega); omega
theorem div_rng {x y : Int} (hx : 0 ≤ x) (hx2 : x < 18446744073709551616) (hy : 0 < y) : 0 ≤ x / y ∧ x / y < 18446744073709551616 :=
  ⟨Int.ediv_nonneg hx (by omega), Int.lt_of_le_of_lt (Int.ediv_le_self y hx) hx2⟩
theorem mod_rng {x y : Int} (hx : 0 ≤ x) (hy2 : y < 18446744073709551616) (hy : 0 < y) : 0 ≤ x % y ∧ x % y < 18446744073709551616 :=
  ⟨Int.emod_nonneg x (by omega), Int.lt_trans (Int.emod_lt_of_pos x hy) hy2⟩
theorem shr_rng {x : Int} (n : Nat) (hx : 0 ≤ x) (hx2 : x < 18446744073709551616) : 0 ≤ x / 2 ^ n ∧ x / 2 ^ n < 18446744073709551616 :=
  div_rng hx hx2 (Int.pow_pos (by omega))
set_option maxHeartbeats 1000000 in
theorem binU_any (op k x y : Int) (w : World) (hx : 0 ≤ x) (hx2 : x < 18446744073709551616) (hy : 0 ≤ y) (hy2 : y < 18446744073709551616) (h1 : 1 ≤ op) (h2 : op ≤ 16) (hz : op = 4 ∨ op = 5 → 0 < y) :
    Calls Tryz.prog 136 #[.int .i64 op, .int .i64 k, .int .u64 x, .int .u64 y] w fun e w' => e = .returned (.int .u64 (Wd.bu op k x y)) ∧ w' = w := by
  have Hz : Hid (op = 4 ∨ op = 5 → 0 < y) := hz
  clear hz
  rcases ops16 h1 h2 with h | h | h | h | h | h | h | h | h | h | h | h | h | h | h | h
  all_goals
    subst h
    first | have hy0 : 0 < y := Hz.out (by decide) | skip
    clear Hz h1 h2
    go_enter Tryz.func136, Tryz.ntmps136
    go_wp2_with (first | (go_at_call 145; go_in) | (go_at_call 151; refine (compareU_any _ _ _ _).mono ?_; rintro e w' ⟨rfl, rfl⟩))
    first
      | (go_ret; exact ⟨rfl, rfl⟩)
      | (refine (canon_any _ _ _ ?_ ?_).mono ?_
         · first | exact (wrap_rng _).1 | exact (div_rng hx hx2 hy0).1 | exact (mod_rng hx hy2 hy0).1 | exact (shr_rng _ hx hx2).1 | (simp only [Go.u64_and _ _ hx hx2 hy hy2, Go.u64_or _ _ hx hx2 hy hy2, Go.u64_xor _ _ hx hx2 hy hy2]; omega)
         · first | exact (wrap_rng _).2 | exact (div_rng hx hx2 hy0).2 | exact (mod_rng hx hy2 hy0).2 | exact (shr_rng _ hx hx2).2 | (rw [Go.u64_and _ _ hx hx2 hy hy2]; exact land_lt hx hx2 hy hy2) | (rw [Go.u64_or _ _ hx hx2 hy hy2]; exact lor_lt hx hx2 hy hy2) | (rw [Go.u64_xor _ _ hx hx2 hy hy2]; exact lxor_lt hx hx2 hy hy2)
         · rintro e w' ⟨rfl, rfl⟩
           go_wp2
           go_ret
           refine ⟨ret_u64 ?_, rfl⟩
           simp only [Wd.bu1, Wd.bu2, Wd.bu3, Wd.bu4, Wd.bu5, Wd.bu6, Wd.bu7, Wd.bu8, Wd.bu9, Wd.bu10, Wd.canon_wrap, Go.u64_and _ _ hx hx2 hy hy2, Go.u64_or _ _ hx hx2 hy hy2, Go.u64_xor _ _ hx hx2 hy hy2])
theorem sg_wrap (x : Int) : wrap64 x = Wd.sg x := by unfold wrap64 Wd.sg; rfl
theorem sg_ne {y : Int} (h : 0 < y) (h2 : y < 18446744073709551616) : (wrap64 y == 0) = false := by rw [beq_eq_false_iff_ne]; unfold wrap64; omega
theorem canon_sg (k x : Int) : Wd.canon k (Wd.sg x) = Wd.canon k x := by
  rw [← Wd.canon_mod k x, ← Wd.canon_mod k (Wd.sg x)]; congr 1; unfold Wd.sg; omega
set_option maxHeartbeats 1000000 in
theorem binS_any (op k x y : Int) (w : World) (hx : 0 ≤ x) (hx2 : x < 18446744073709551616) (hy : 0 ≤ y) (hy2 : y < 18446744073709551616) (h1 : 1 ≤ op) (h2 : op ≤ 16) (hz : op = 4 ∨ op = 5 → 0 < y) :
    Calls Tryz.prog 135 #[.int .i64 op, .int .i64 k, .int .u64 x, .int .u64 y] w fun e w' => e = .returned (.int .u64 (Wd.bs op k x y)) ∧ w' = w := by
  have Hz : Hid (op = 4 ∨ op = 5 → 0 < y) := hz
  clear hz
  rcases ops16 h1 h2 with h | h | h | h | h | h | h | h | h | h | h | h | h | h | h | h
  all_goals
    subst h
    first | (have hy0 : 0 < y := Hz.out (by decide); have hy3 : ¬ wrap64 y = 0 := by have := sg_ne hy0 hy2; simpa using this) | skip
    clear Hz h1 h2
    go_enter Tryz.func135, Tryz.ntmps135
    go_wp2_with (first | (go_at_call 145; go_in) | (go_at_call 150; refine (compareI_any _ _ _ _).mono ?_; rintro e w' ⟨rfl, rfl⟩) | (go_at_call 136; refine (binU_any _ _ _ _ _ (by assumption) (by assumption) (by assumption) (by assumption) (by decide) (by decide) (by intro h; simp at h)).mono ?_; rintro e w' ⟨rfl, rfl⟩))
    first
      | (go_ret; refine ⟨ret_u64 ?_, rfl⟩; first | exact (Wd.bsu _ _ _ _ (by decide) (by decide) (by decide) (by decide)).symm | (rw [Wd.bsc _ _ _ _ (by decide)]; simp only [sg_wrap]) | (rw [Wd.bs10, IntKind.wrap_u64, sg_wrap]))
      | (refine (canon_any _ _ _ (wrap_rng _).1 (wrap_rng _).2).mono ?_
         rintro e w' ⟨rfl, rfl⟩
         go_wp2
         go_ret
         refine ⟨ret_u64 ?_, rfl⟩
         simp only [Wd.bs4, Wd.bs5, Wd.canon_wrap, canon_sg, sg_wrap])
end Go.Proofs.YtkiockffejlnhaaGreatDoor

/- Bin of kinds that are no floats: its contract. -/
namespace Go.Proofs.YtkiockffejlnhaaGreatDoor
open Go.RowKit
set_option linter.unusedVariables false
theorem ret_bin {a b c d : Int} (h : (c, d) = (a, b)) : Ending.returned (.tuple #[.int .u64 a, .int .i64 b]) = .returned (.tuple #[.int .u64 c, .int .i64 d]) := by cases h; rfl
theorem opcases (op : Int) : op = 9 ∨ op = 10 ∨ op = 4 ∨ op = 5 ∨ ((op == 9) = false ∧ (op == 10) = false ∧ (op == 4) = false ∧ (op == 5) = false) := by
  simp only [beq_eq_false_iff_ne]; omega
set_option maxHeartbeats 1000000 in
theorem binI_kind (op k x y : Int) (w : World) (hh : Wd.hasBinB op k = false) :
    Calls Tryz.prog 111 #[.int .i64 op, .int .i64 k, .int .u64 x, .int .u64 y] w fun e w' => e = .returned (.tuple #[.int .u64 0, .int .i64 10]) ∧ w' = w := by
  go_enter Tryz.func111, Tryz.ntmps111
  go_wp2_with (go_at_call 131; refine (hasBin_any _ _ _).mono ?_; rintro e w' ⟨rfl, rfl⟩)
  go_ret2
  exact ⟨rfl, rfl⟩
set_option maxHeartbeats 2000000 in
theorem binI_form (op k x y : Int) (w : World) (hx : 0 ≤ x) (hx2 : x < 18446744073709551616) (hy : 0 ≤ y) (hy2 : y < 18446744073709551616)
    (hh : Wd.hasBinB op k = true) (hf : Wd.isB k x = false ∨ Wd.isB (if Wd.shB op then 9 else k) y = false) :
    Calls Tryz.prog 111 #[.int .i64 op, .int .i64 k, .int .u64 x, .int .u64 y] w fun e w' => e = .returned (.tuple #[.int .u64 0, .int .i64 11]) ∧ w' = w := by
  cases hix : Wd.isB k x
  · clear hf
    rcases opcases op with h | h | h | h | ⟨h9, h10, h4, h5⟩
    all_goals
      first | subst h | skip
      go_enter Tryz.func111, Tryz.ntmps111
      go_wp2_with (first | (go_at_call 131; refine (hasBin_any _ _ _).mono ?_; rintro e w' ⟨rfl, rfl⟩) | (go_at_call 132; refine (is_any _ _ _ (by assumption) (by assumption)).mono ?_; rintro e w' ⟨rfl, rfl⟩))
      go_ret2
      exact ⟨rfl, rfl⟩
  · have Hf : Hid (Wd.isB (if Wd.shB op then 9 else k) y = false) := by rcases hf with h | h; { rw [hix] at h; cases h }; exact h
    clear hf
    rcases opcases op with h | h | h | h | ⟨h9, h10, h4, h5⟩
    all_goals
      first | subst h | skip
      first
        | have hf : Wd.isB 9 y = false := Hf.out
        | have hf : Wd.isB k y = false := Hf.out
        | have hf : Wd.isB k y = false := by have := Hf.out; unfold Wd.shB at this; rw [h9, h10] at this; exact this
      clear Hf
      go_enter Tryz.func111, Tryz.ntmps111
      go_wp2_with (first | (go_at_call 131; refine (hasBin_any _ _ _).mono ?_; rintro e w' ⟨rfl, rfl⟩) | (go_at_call 132; refine (is_any _ _ _ (by assumption) (by assumption)).mono ?_; rintro e w' ⟨rfl, rfl⟩))
      go_ret2
      exact ⟨rfl, rfl⟩
set_option maxHeartbeats 2000000 in
theorem binI_zero (op k x : Int) (w : World) (hx : 0 ≤ x) (hx2 : x < 18446744073709551616) (ho : op = 4 ∨ op = 5) (hk : (k == 10) = false)
    (hh : Wd.hasBinB op k = true) (hix : Wd.isB k x = true) (hiy : Wd.isB k 0 = true) :
    Calls Tryz.prog 111 #[.int .i64 op, .int .i64 k, .int .u64 x, .int .u64 0] w fun e w' => e = .returned (.tuple #[.int .u64 0, .int .i64 12]) ∧ w' = w := by
  rcases ho with h | h
  all_goals
    subst h
    go_enter Tryz.func111, Tryz.ntmps111
    go_wp2_with (first | (go_at_call 131; refine (hasBin_any _ _ _).mono ?_; rintro e w' ⟨rfl, rfl⟩) | (go_at_call 132; refine (is_any _ _ _ (by first | assumption | decide) (by first | assumption | decide)).mono ?_; rintro e w' ⟨rfl, rfl⟩))
    go_ret2
    exact ⟨rfl, rfl⟩
set_option maxHeartbeats 2000000 in
theorem binI_ok (op k x y : Int) (w : World) (hx : 0 ≤ x) (hx2 : x < 18446744073709551616) (hy : 0 ≤ y) (hy2 : y < 18446744073709551616) (hk : (k == 10) = false)
    (hh : Wd.hasBinB op k = true) (hix : Wd.isB k x = true) (hf : Wd.isB (if Wd.shB op then 9 else k) y = true) (hz : op = 4 ∨ op = 5 → 0 < y) :
    Calls Tryz.prog 111 #[.int .i64 op, .int .i64 k, .int .u64 x, .int .u64 y] w fun e w' => e = .returned (.tuple #[.int .u64 (if Wd.sgnB k then Wd.bs op k x y else Wd.bu op k x y), .int .i64 0]) ∧ w' = w := by
  have Hz : Hid (op = 4 ∨ op = 5 → 0 < y) := hz
  obtain ⟨ho1, ho2⟩ := Wd.hasBin_ops hh
  have hfc : (op = 9 ∨ op = 10) ∧ Wd.isB 9 y = true ∨ ((op == 9) = false ∧ (op == 10) = false) ∧ Wd.isB k y = true := by
    by_cases h : op = 9 ∨ op = 10
    · left; refine ⟨h, ?_⟩; have e : Wd.shB op = true := by rcases h with rfl | rfl <;> rfl
      rw [e] at hf; exact hf
    · right; have e : (op == 9) = false ∧ (op == 10) = false := by simp only [beq_eq_false_iff_ne]; omega
      refine ⟨e, ?_⟩; unfold Wd.shB at hf; rw [e.1, e.2] at hf; exact hf
  clear hf
  have hyc : y = 0 ∧ (op == 4) = false ∧ (op == 5) = false ∨ (y == 0) = false := by
    by_cases h : y = 0
    · left; refine ⟨h, ?_⟩; simp only [beq_eq_false_iff_ne]; constructor <;> (intro e; have := hz (by omega); omega)
    · right; simpa using h
  clear hz
  cases hs : Wd.sgnB k
  all_goals
    rcases hyc with ⟨rfl, h4, h5⟩ | hyc
    all_goals
      rcases hfc with ⟨rfl | rfl, hf⟩ | ⟨⟨h9, h10⟩, hf⟩
      all_goals
        go_enter Tryz.func111, Tryz.ntmps111
        go_wp2_with (first | (go_at_call 131; refine (hasBin_any _ _ _).mono ?_; rintro e w' ⟨rfl, rfl⟩) | (go_at_call 132; refine (is_any _ _ _ (by first | assumption | decide) (by first | assumption | decide)).mono ?_; rintro e w' ⟨rfl, rfl⟩) | (go_at_call 134; refine (signed_any _ _).mono ?_; rintro e w' ⟨rfl, rfl⟩) | (go_at_call 135; refine (binS_any _ _ _ _ _ (by assumption) (by assumption) (by first | assumption | decide) (by first | assumption | decide) (by first | assumption | decide) (by first | assumption | decide) Hz.out).mono ?_; rintro e w' ⟨rfl, rfl⟩) | (go_at_call 136; refine (binU_any _ _ _ _ _ (by assumption) (by assumption) (by first | assumption | decide) (by first | assumption | decide) (by first | assumption | decide) (by first | assumption | decide) Hz.out).mono ?_; rintro e w' ⟨rfl, rfl⟩))
        all_goals
          go_ret2
          exact ⟨ret_bin rfl, rfl⟩
theorem binI_any (op k x y : Int) (w : World) (hx : 0 ≤ x) (hx2 : x < 18446744073709551616) (hy : 0 ≤ y) (hy2 : y < 18446744073709551616) (hk : k ≠ 10) :
    Calls Tryz.prog 111 #[.int .i64 op, .int .i64 k, .int .u64 x, .int .u64 y] w fun e w' => e = .returned (.tuple #[.int .u64 (Wd.binI op k x y).1, .int .i64 (Wd.binI op k x y).2]) ∧ w' = w := by
  have hk' : (k == 10) = false := by simpa using hk
  unfold Wd.binI
  cases hh : Wd.hasBinB op k
  · rw [if_pos rfl]; exact binI_kind op k x y w hh
  · rw [if_neg (by simp)]
    by_cases hf : Wd.isB k x = false ∨ Wd.isB (if Wd.shB op then 9 else k) y = false
    · rw [if_pos hf]; exact binI_form op k x y w hx hx2 hy hy2 hh hf
    · rw [if_neg hf]
      have hix : Wd.isB k x = true := by cases h : Wd.isB k x; { exact absurd (.inl h) hf }; rfl
      have hiy : Wd.isB (if Wd.shB op then 9 else k) y = true := by cases h : Wd.isB (if Wd.shB op then 9 else k) y; { exact absurd (.inr h) hf }; rfl
      by_cases hz : y = 0 ∧ (op = 4 ∨ op = 5)
      · rw [if_pos hz]
        obtain ⟨rfl, ho⟩ := hz
        have hs : Wd.shB op = false := by rcases ho with rfl | rfl <;> rfl
        rw [hs] at hiy
        exact binI_zero op k x w hx hx2 ho hk' hh hix hiy
      · rw [if_neg hz]
        refine (binI_ok op k x y w hx hx2 hy hy2 hk' hh hix hiy (by intro h; have : y ≠ 0 := fun e => hz ⟨e, h⟩; omega)).mono ?_
        rintro e w' ⟨rfl, rfl⟩
        refine ⟨?_, rfl⟩
        split <;> rfl
end Go.Proofs.YtkiockffejlnhaaGreatDoor

/- bin and wakes (of the laws), at kinds that are no floats: contracts. -/
namespace Go.Proofs.YtkiockffejlnhaaGreatDoor
open Go.RowKit
set_option linter.unusedVariables false
namespace Wd
def bv (op k x y : Int) : Int := (binI op k x y).1
end Wd
end Go.Proofs.YtkiockffejlnhaaGreatDoor

/- Un: its contract. -/
namespace Go.Proofs.YtkiockffejlnhaaGreatDoor
open Go.RowKit
set_option linter.unusedVariables false
namespace Wd
def flip (x : Int) : Int := if x < 9223372036854775808 then x + 9223372036854775808 else x - 9223372036854775808
def unI (op k x : Int) : Int × Int :=
  if hasUnB op k = false then (0, 10) else if isB k x = false then (0, 11)
  else if op = 2 then (1 - x, 0) else if op = 3 then (canon k (18446744073709551615 - x), 0) else if k = 10 then (flip x, 0) else (canon k (-x), 0)
end Wd
theorem xor_top {a : Nat} (h : a < 9223372036854775808) : a ^^^ 9223372036854775808 = 9223372036854775808 + a := by
  have e : (9223372036854775808 : Nat) = 2 ^ 63 := by decide
  rw [e] at *
  refine Nat.eq_of_testBit_eq fun i => ?_
  rw [Nat.testBit_xor, Nat.testBit_two_pow]
  rcases Nat.lt_trichotomy i 63 with hi | hi | hi
  · rw [Nat.testBit_two_pow_add_gt hi, decide_eq_false (by omega), Bool.xor_false]
  · subst hi; rw [Nat.testBit_two_pow_add_eq, decide_eq_true rfl, Bool.xor_true]
  · have p : 2 ^ 64 ≤ 2 ^ i := Nat.pow_le_pow_right (by omega) hi
    have q : 2 ^ 64 = 2 ^ 63 + 2 ^ 63 := by decide
    rw [Nat.testBit_lt_two_pow (x := a) (by omega), Nat.testBit_lt_two_pow (x := 2 ^ 63 + a) (by omega), decide_eq_false (by omega), Bool.xor_false]
theorem xor_ones {a : Nat} (h : a < 18446744073709551616) : 18446744073709551615 ^^^ a = 18446744073709551615 - a := by
  have e1 : (18446744073709551615 : Nat) = 2 ^ 64 - 1 := by decide
  have e2 : (18446744073709551615 - a : Nat) = 2 ^ 64 - (a + 1) := by omega
  have h' : a < 2 ^ 64 := h
  rw [e2, e1]
  refine Nat.eq_of_testBit_eq fun i => ?_
  rw [Nat.testBit_xor, Nat.testBit_two_pow_sub_one, Nat.testBit_two_pow_sub_succ h']
  by_cases hi : i < 64
  · simp [hi]
  · have p : 2 ^ 64 ≤ 2 ^ i := Nat.pow_le_pow_right (by omega) (by omega)
    rw [Nat.testBit_lt_two_pow (x := a) (by omega)]; simp [hi]
theorem bits_flip {x : Int} (h1 : 0 ≤ x) (h2 : x < 18446744073709551616) : bits .xor .u64 x 9223372036854775808 = Wd.flip x := by
  rw [Go.u64_xor _ _ h1 h2 (by decide) (by decide), show (9223372036854775808 : Int).toNat = 9223372036854775808 from rfl]
  unfold Wd.flip
  split
  · rw [xor_top (by omega)]; omega
  · have e : x.toNat = (x - 9223372036854775808).toNat ^^^ 9223372036854775808 := by rw [xor_top (by omega)]; omega
    rw [e, Nat.xor_assoc, Nat.xor_self, Nat.xor_zero]; omega
theorem bits_com {x : Int} (h1 : 0 ≤ x) (h2 : x < 18446744073709551616) : bits .xor .u64 IntKind.u64.max x = 18446744073709551615 - x := by
  rw [show IntKind.u64.max = 18446744073709551615 from by decide, Go.u64_xor _ _ (by decide) (by decide) h1 h2, show (18446744073709551615 : Int).toNat = 18446744073709551615 from rfl, xor_ones (by omega)]; omega
theorem bits_not {x : Int} (h1 : 0 ≤ x) (h2 : x ≤ 1) : bits .xor .u64 x 1 = 1 - x := by
  rw [Go.u64_xor _ _ h1 (by omega) (by decide) (by decide)]
  have : x = 0 ∨ x = 1 := by omega
  rcases this with rfl | rfl <;> decide
theorem unI_ok {op k x : Int} (hh : Wd.hasUnB op k = true) (hi : Wd.isB k x = true) :
    Wd.unI op k x = if op = 2 then (1 - x, 0) else if op = 3 then (Wd.canon k (18446744073709551615 - x), 0) else if k = 10 then (Wd.flip x, 0) else (Wd.canon k (-x), 0) := by
  unfold Wd.unI; rw [if_neg (by simp [hh]), if_neg (by simp [hi])]
set_option maxHeartbeats 1000000 in
theorem un_ok (op k x : Int) (w : World) (hx : 0 ≤ x) (hx2 : x < 18446744073709551616) (hh : Wd.hasUnB op k = true) (hi : Wd.isB k x = true) :
    Calls Tryz.prog 112 #[.int .i64 op, .int .i64 k, .int .u64 x] w fun e w' => e = .returned (.tuple #[.int .u64 (Wd.unI op k x).1, .int .i64 (Wd.unI op k x).2]) ∧ w' = w := by
  have Hu : Hid (_ = _) := unI_ok hh hi
  have Hn : Hid (op = 2 → x ≤ 1) := by
    show op = 2 → x ≤ 1
    rintro rfl
    have hk : k = 1 := by simpa [Wd.hasUnB] using hh
    subst hk
    simp only [Wd.isB, Wd.canon1, Bool.and_eq_true, beq_iff_eq] at hi
    omega
  go_enter Tryz.func112, Tryz.ntmps112
  go_wp2_with (first | (go_at_call 137; refine (hasUn_any _ _ _).mono ?_; rintro e w' ⟨rfl, rfl⟩) | (go_at_call 132; refine (is_any _ _ _ (by first | assumption | decide) (by first | assumption | decide)).mono ?_; rintro e w' ⟨rfl, rfl⟩) | (go_at_call 138; go_in) | (go_at_call 123; refine (canon_any _ _ _ (by first | exact (wrap_rng _).1 | (rw [bits_com (by assumption) (by assumption)]; omega)) (by first | exact (wrap_rng _).2 | (rw [bits_com (by assumption) (by assumption)]; omega))).mono ?_; rintro e w' ⟨rfl, rfl⟩))
  all_goals
    go_ret2
    refine ⟨ret_bin ?_, rfl⟩
    show Wd.unI op k x = _
    rw [Hu.out]
  · rw [if_pos (by simpa using ‹(op == 2) = true›), bits_not hx (Hn.out (by simpa using ‹(op == 2) = true›))]
  · rw [if_neg (by simpa using ‹(op == 2) = false›), if_pos (by simpa using ‹(op == 3) = true›), bits_com hx hx2]
  · rw [if_neg (by simpa using ‹(op == 2) = false›), if_neg (by simpa using ‹(op == 3) = false›), if_pos (by simpa using ‹(k == 10) = true›), bits_flip hx hx2]
  · rw [if_neg (by simpa using ‹(op == 2) = false›), if_neg (by simpa using ‹(op == 3) = false›), if_neg (by simpa using ‹(k == 10) = false›), Wd.canon_wrap]
set_option maxHeartbeats 400000 in
theorem un_kind (op k x : Int) (w : World) (hh : Wd.hasUnB op k = false) :
    Calls Tryz.prog 112 #[.int .i64 op, .int .i64 k, .int .u64 x] w fun e w' => e = .returned (.tuple #[.int .u64 0, .int .i64 10]) ∧ w' = w := by
  go_enter Tryz.func112, Tryz.ntmps112
  go_wp2_with (go_at_call 137; refine (hasUn_any _ _ _).mono ?_; rintro e w' ⟨rfl, rfl⟩)
  go_ret2
  exact ⟨rfl, rfl⟩
set_option maxHeartbeats 400000 in
theorem un_form (op k x : Int) (w : World) (hx : 0 ≤ x) (hx2 : x < 18446744073709551616) (hh : Wd.hasUnB op k = true) (hi : Wd.isB k x = false) :
    Calls Tryz.prog 112 #[.int .i64 op, .int .i64 k, .int .u64 x] w fun e w' => e = .returned (.tuple #[.int .u64 0, .int .i64 11]) ∧ w' = w := by
  go_enter Tryz.func112, Tryz.ntmps112
  go_wp2_with (first | (go_at_call 137; refine (hasUn_any _ _ _).mono ?_; rintro e w' ⟨rfl, rfl⟩) | (go_at_call 132; refine (is_any _ _ _ (by assumption) (by assumption)).mono ?_; rintro e w' ⟨rfl, rfl⟩))
  go_ret2
  exact ⟨rfl, rfl⟩
theorem un_any (op k x : Int) (w : World) (hx : 0 ≤ x) (hx2 : x < 18446744073709551616) :
    Calls Tryz.prog 112 #[.int .i64 op, .int .i64 k, .int .u64 x] w fun e w' => e = .returned (.tuple #[.int .u64 (Wd.unI op k x).1, .int .i64 (Wd.unI op k x).2]) ∧ w' = w := by
  cases hh : Wd.hasUnB op k
  · have e : Wd.unI op k x = (0, 10) := by unfold Wd.unI; rw [if_pos hh]
    rw [e]; exact un_kind op k x w hh
  · cases hi : Wd.isB k x
    · have e : Wd.unI op k x = (0, 11) := by unfold Wd.unI; rw [if_neg (by simp [hh]), if_pos hi]
      rw [e]; exact un_form op k x w hx hx2 hh hi
    · exact un_ok op k x w hx hx2 hh hi
end Go.Proofs.YtkiockffejlnhaaGreatDoor

/- Floats as their bits: plain functions, and what they keep to. No Go here. -/
namespace Go.Proofs.YtkiockffejlnhaaGreatDoor
open Ieee
namespace Fl
set_option linter.unusedVariables false
def rd (x : Int) : Datum := double.read x.toNat
def theNaN : Int := 9221120237041090560
def ordN (a b : Nat) : Option Ordering := double.order a b
def cmpN (op : Int) (a b : Nat) : Int :=
  if op = 11 then Wd.tr (ordN a b == some .eq) else if op = 12 then Wd.tr (ordN a b != some .eq) else if op = 13 then Wd.tr (ordN a b == some .lt)
  else if op = 14 then Wd.tr (ordN a b == some .lt || ordN a b == some .eq) else if op = 15 then Wd.tr (ordN a b == some .gt) else if op = 16 then Wd.tr (ordN a b == some .gt || ordN a b == some .eq) else 0
def cmpF (op x y : Int) : Int := cmpN op x.toNat y.toNat
def raw (op x y : Int) : Option Nat :=
  if op = 1 then double.add x.toNat y.toNat else if op = 2 then double.sub x.toNat y.toNat else if op = 3 then double.mul x.toNat y.toNat else double.div x.toNat y.toNat
def ar (op x y : Int) : Int := match raw op x y with | some r => r | none => theNaN
def bf (op x y : Int) : Int := if Wd.cmpB op then cmpF op x y else ar op x y
theorem sum_comm (a b : Datum) : a.sum b = b.sum a := by
  cases a <;> cases b <;> simp only [Datum.sum]
  · rename_i s m i t n j
    rw [Int.min_comm i j, Int.add_comm (signed s m _), Bool.and_comm s t]
  · rename_i s t
    by_cases h : s = t
    · subst h; rfl
    · rw [if_neg h, if_neg (fun e => h e.symm)]
theorem product_comm (a b : Datum) : a.product b = b.product a := by
  cases a <;> cases b <;> simp only [Datum.product]
  · rename_i s m i t n j
    rw [Bool.xor_comm, Nat.mul_comm, Int.add_comm]
  · rename_i s t; rw [Bool.xor_comm]
theorem sw : double.signWeight = 9223372036854775808 := by decide +kernel
theorem bn : double.binade = 4503599627370496 := by decide +kernel
theorem ir : double.infRung = 9218868437227405312 := by decide +kernel
theorem lp : double.leastPlace = -1074 := by decide +kernel
def rdOf (neg : Bool) (rung : Nat) : Datum :=
  if rung < 4503599627370496 then .number neg rung (-1074)
  else if rung < 9218868437227405312 then .number neg (4503599627370496 + rung % 4503599627370496) (-1074 + (rung / 4503599627370496 - 1 : Nat))
  else if rung = 9218868437227405312 then .infinity neg
  else .nan neg (rung - 9218868437227405312)
theorem read_is (n : Nat) : double.read n = rdOf (n / 9223372036854775808 % 2 == 1) (n % 9223372036854775808) := by
  unfold Format.read rdOf
  simp only [sw, bn, ir, lp]
theorem read_word (neg : Bool) {rung : Nat} (h : rung < 9223372036854775808) : double.read (double.word neg rung) = rdOf neg rung := by
  rw [read_is]
  unfold Format.word
  rw [sw]
  cases neg
  · rw [if_neg (by simp), show rung / 9223372036854775808 % 2 = 0 by omega, show rung % 9223372036854775808 = rung by omega]; rfl
  · rw [if_pos rfl, show (9223372036854775808 + rung) / 9223372036854775808 % 2 = 1 by omega, show (9223372036854775808 + rung) % 9223372036854775808 = rung by omega]; rfl
theorem nearest_word (neg : Bool) (mag : Nat) (place : Int) : ∃ rung, rung ≤ 9218868437227405312 ∧ double.nearest neg mag place = double.word neg rung := by
  unfold Format.nearest
  split
  · exact ⟨0, by omega, rfl⟩
  · dsimp only
    refine ⟨_, ?_, rfl⟩
    rw [ir]; exact Nat.min_le_right _ _
theorem write_num (neg : Bool) (mag : Nat) (place : Int) : (double.read (double.write (.number neg mag place))).isNaN = false := by
  obtain ⟨r, h, e⟩ := nearest_word neg mag place
  show (double.read (double.nearest neg mag place)).isNaN = false
  rw [e, read_word neg (by omega)]
  unfold rdOf
  repeat' split
  all_goals first | rfl | omega
theorem write_inf (neg : Bool) : (double.read (double.write (.infinity neg))).isNaN = false := by
  show (double.read (double.word neg double.infRung)).isNaN = false
  rw [ir, read_word neg (by omega)]
  unfold rdOf
  repeat' split
  all_goals first | rfl | omega
theorem cmp_self (a : Int) : compare a a = Ordering.eq := by simp [compare, compareOfLessAndEq]
theorem cmp_selfN (a : Nat) : compare a a = Ordering.eq := by simp [compare, compareOfLessAndEq]
theorem order_self {d : Datum} (h : d.isNaN = false) : d.order d = some .eq := by
  cases d with
  | number s m i => simp only [Datum.order]; rw [cmp_self]
  | infinity s => simp only [Datum.order]; rw [cmp_selfN]
  | nan s t => cases h
theorem order_nan {d e : Datum} (h : d.isNaN = true) : d.order e = none := by
  cases d with
  | nan s t => cases e <;> rfl
  | number s m i => cases h
  | infinity s => cases h
theorem raw_ok {op x y : Int} {r : Nat} (h : raw op x y = some r) : (double.read r).isNaN = false := by
  have key : ∀ d : Option Datum, (∀ e, d = some e → e.isNaN = false) → d.map double.write = some r → (double.read r).isNaN = false := by
    intro d hd hr
    cases d with
    | none => cases hr
    | some e =>
      have h1 := hd e rfl
      have : double.write e = r := by simpa using hr
      subst this
      cases e with
      | number s m i => exact write_num s m i
      | infinity s => exact write_inf s
      | nan s t => cases h1
  have hs : ∀ a b e, Datum.sum a b = some e → e.isNaN = false := by
    intro a b e he
    cases a <;> cases b <;> simp only [Datum.sum] at he
    all_goals first | (cases he; done) | skip
    all_goals first | (cases he; rfl) | (split at he; · cases he; rfl
                                         · cases he)
  have hp : ∀ a b e, Datum.product a b = some e → e.isNaN = false := by
    intro a b e he
    cases a <;> cases b <;> simp only [Datum.product] at he
    all_goals first | (cases he; done) | skip
    all_goals first | (cases he; rfl) | (split at he; · cases he
                                         · cases he; rfl)
  have hq : ∀ n a b e, Datum.quotient n a b = some e → e.isNaN = false := by
    intro n a b e he
    cases a <;> cases b <;> simp only [Datum.quotient] at he
    all_goals first | (cases he; done) | skip
    all_goals first | (cases he; rfl) | (split at he; · split at he
                                                        · cases he
                                                        · cases he; rfl
                                         · cases he; rfl)
  unfold raw at h
  split at h
  · exact key _ (hs _ _) h
  · split at h
    · exact key _ (hs _ _) h
    · split at h
      · exact key _ (hp _ _) h
      · exact key _ (hq _ _ _) h
end Fl
end Go.Proofs.YtkiockffejlnhaaGreatDoor
