/- Contracts and plain facts that the walks share. -/
import Derived.Test.YtkiockffejlnhaaGreatDoorRows
import Derived.WalkKit
import Derived.WalkSpells
import Derived.WalkLawsBesides
import Derived.Deep.QuietTactic
import Derived.BigQuiet
import Derived.Deep.OwnRows
import Derived.Below
import Derived.Handy
import Derived.StillTailTactics
import Derived.Deep.RegionWith
import Derived.OwnWalk
namespace Go.Proofs.YtkiockffejlnhaaGreatDoor
namespace Wd
def wid (k : Int) : Int := if k = 1 then 1 else if k = 2 ∨ k = 6 then 8 else if k = 3 ∨ k = 7 then 16 else if k = 4 ∨ k = 8 then 32 else if k = 5 ∨ k = 9 ∨ k = 10 ∨ k = 11 then 64 else 0
def sx (m h x : Int) : Int := ((x + h) % m - h) % 18446744073709551616
def canon (k x : Int) : Int :=
 if k = 1 then x % 2 else if k = 2 then sx 256 128 x else if k = 3 then sx 65536 32768 x else if k = 4 then sx 4294967296 2147483648 x
 else if k = 5 then x % 18446744073709551616 else if k = 6 then x % 256 else if k = 7 then x % 65536 else if k = 8 then x % 4294967296
 else if k = 9 then x % 18446744073709551616 else if k = 10 then x % 18446744073709551616 else if k = 11 then x % 18446744073709551616 else 0
def isB (k x : Int) : Bool := decide (1 ≤ k) && decide (k ≤ 11) && (canon k x == x)
def sgnB (k : Int) : Bool := decide (2 ≤ k) && decide (k ≤ 5)
def intB (k : Int) : Bool := decide (2 ≤ k) && decide (k ≤ 9)
def numB (k : Int) : Bool := decide (2 ≤ k) && decide (k ≤ 10)
def cmpB (op : Int) : Bool := decide (11 ≤ op) && decide (op ≤ 16)
def hasUnB (op k : Int) : Bool := (op == 1 && numB k) || (op == 2 && k == 1) || (op == 3 && intB k)
def hasBinB (op k : Int) : Bool :=
 (intB k && decide (1 ≤ op) && decide (op ≤ 16)) || (k == 10 && ((decide (1 ≤ op) && decide (op ≤ 4)) || cmpB op)) ||
 (k == 1 && (op == 6 || op == 7 || op == 8 || op == 11 || op == 12)) || (k == 11 && (op == 11 || op == 12))
def tr (b : Bool) : Int := if b then 1 else 0
def cmpI (op a b : Int) : Int :=
 if op = 11 then tr (a == b) else if op = 12 then tr (a != b) else if op = 13 then tr (decide (a < b)) else if op = 14 then tr (decide (a ≤ b))
 else if op = 15 then tr (decide (b < a)) else if op = 16 then tr (decide (b ≤ a)) else 0
def sg (x : Int) : Int := (x + 9223372036854775808) % 18446744073709551616 - 9223372036854775808
def bu (op k x y : Int) : Int :=
 if op = 1 then canon k (x + y) else if op = 2 then canon k (x - y) else if op = 3 then canon k (x * y) else if op = 4 then canon k (x / y) else if op = 5 then canon k (x % y)
 else if op = 6 then canon k (x.toNat &&& y.toNat : Nat) else if op = 7 then canon k (x.toNat ||| y.toNat : Nat) else if op = 8 then canon k (x.toNat ^^^ y.toNat : Nat)
 else if op = 9 then canon k (x * 2 ^ min y.toNat 64) else if op = 10 then canon k (x / 2 ^ min y.toNat 64) else cmpI op x y
def bs (op k x y : Int) : Int :=
 if op = 4 then canon k ((sg x).tdiv (sg y)) else if op = 5 then canon k ((sg x).tmod (sg y)) else if op = 10 then (sg x / 2 ^ min y.toNat 64) % 18446744073709551616
 else if 11 ≤ op then cmpI op (sg x) (sg y) else bu op k x y
def shB (op : Int) : Bool := op == 9 || op == 10
theorem kinds (k : Int) : k = 1 ∨ k = 2 ∨ k = 3 ∨ k = 4 ∨ k = 5 ∨ k = 6 ∨ k = 7 ∨ k = 8 ∨ k = 9 ∨ k = 10 ∨ k = 11 ∨ (k < 1 ∨ 11 < k) := by omega
theorem canon_out (k x : Int) (h : k < 1 ∨ 11 < k) : canon k x = 0 := by
 unfold canon
 rw [if_neg (by omega), if_neg (by omega), if_neg (by omega), if_neg (by omega), if_neg (by omega), if_neg (by omega), if_neg (by omega), if_neg (by omega), if_neg (by omega), if_neg (by omega), if_neg (by omega)]
theorem canon1 (x : Int) : canon 1 x = x % 2 := rfl
theorem canon2 (x : Int) : canon 2 x = ((x + 128) % 256 - 128) % 18446744073709551616 := rfl
theorem canon3 (x : Int) : canon 3 x = ((x + 32768) % 65536 - 32768) % 18446744073709551616 := rfl
theorem canon4 (x : Int) : canon 4 x = ((x + 2147483648) % 4294967296 - 2147483648) % 18446744073709551616 := rfl
theorem canon5 (x : Int) : canon 5 x = x % 18446744073709551616 := rfl
theorem canon6 (x : Int) : canon 6 x = x % 256 := rfl
theorem canon7 (x : Int) : canon 7 x = x % 65536 := rfl
theorem canon8 (x : Int) : canon 8 x = x % 4294967296 := rfl
theorem canon9 (x : Int) : canon 9 x = x % 18446744073709551616 := rfl
theorem canon10 (x : Int) : canon 10 x = x % 18446744073709551616 := rfl
theorem canon11 (x : Int) : canon 11 x = x % 18446744073709551616 := rfl
theorem canon_mod (k x : Int) : canon k (x % 18446744073709551616) = canon k x := by
 rcases kinds k with h | h | h | h | h | h | h | h | h | h | h | h <;> first | (subst h; simp only [canon1, canon2, canon3, canon4, canon5, canon6, canon7, canon8, canon9, canon10, canon11]; omega) | simp only [canon_out k _ h]
theorem canon_wrap (k x : Int) : canon k (IntKind.u64.wrap x) = canon k x := by rw [IntKind.wrap_u64, canon_mod]
theorem bu1 (k x y : Int) : bu 1 k x y = canon k (x + y) := rfl
theorem bu2 (k x y : Int) : bu 2 k x y = canon k (x - y) := rfl
theorem bu3 (k x y : Int) : bu 3 k x y = canon k (x * y) := rfl
theorem bu4 (k x y : Int) : bu 4 k x y = canon k (x / y) := rfl
theorem bu5 (k x y : Int) : bu 5 k x y = canon k (x % y) := rfl
theorem bu6 (k x y : Int) : bu 6 k x y = canon k (x.toNat &&& y.toNat : Nat) := rfl
theorem bu7 (k x y : Int) : bu 7 k x y = canon k (x.toNat ||| y.toNat : Nat) := rfl
theorem bu8 (k x y : Int) : bu 8 k x y = canon k (x.toNat ^^^ y.toNat : Nat) := rfl
theorem bu9 (k x y : Int) : bu 9 k x y = canon k (x * 2 ^ min y.toNat 64) := rfl
theorem bu10 (k x y : Int) : bu 10 k x y = canon k (x / 2 ^ min y.toNat 64) := rfl
theorem buc (op k x y : Int) (h : 11 ≤ op) : bu op k x y = cmpI op x y := by
 unfold bu; rw [if_neg (by omega), if_neg (by omega), if_neg (by omega), if_neg (by omega), if_neg (by omega), if_neg (by omega), if_neg (by omega), if_neg (by omega), if_neg (by omega), if_neg (by omega)]
theorem bs4 (k x y : Int) : bs 4 k x y = canon k ((sg x).tdiv (sg y)) := rfl
theorem bs5 (k x y : Int) : bs 5 k x y = canon k ((sg x).tmod (sg y)) := rfl
theorem bs10 (k x y : Int) : bs 10 k x y = (sg x / 2 ^ min y.toNat 64) % 18446744073709551616 := rfl
theorem bsc (op k x y : Int) (h : 11 ≤ op) : bs op k x y = cmpI op (sg x) (sg y) := by
 unfold bs; rw [if_neg (by omega), if_neg (by omega), if_neg (by omega), if_pos h]
theorem bsu (op k x y : Int) (h : op ≤ 10) (h4 : op ≠ 4) (h5 : op ≠ 5) (h10 : op ≠ 10) : bs op k x y = bu op k x y := by
 unfold bs; rw [if_neg h4, if_neg h5, if_neg h10, if_neg (by omega)]
def binI (op k x y : Int) : Int × Int :=
 if hasBinB op k = false then (0, 10) else if isB k x = false ∨ isB (if shB op then 9 else k) y = false then (0, 11)
 else if y = 0 ∧ (op = 4 ∨ op = 5) then (0, 12) else if sgnB k then (bs op k x y, 0) else (bu op k x y, 0)
theorem hasBin_ops {op k : Int} (h : hasBinB op k = true) : 1 ≤ op ∧ op ≤ 16 := by
 simp [hasBinB, intB, cmpB] at h; omega
end Wd
end Go.Proofs.YtkiockffejlnhaaGreatDoor
namespace Go.Proofs.YtkiockffejlnhaaGreatDoor
set_option maxRecDepth 100000
set_option maxHeartbeats 32000000
open Go.RowKit
theorem ret_i64 {a b : Int} (h : a = b) : Ending.returned (.int .i64 a) = .returned (.int .i64 b) := by rw [h]
theorem ret_u64 {a b : Int} (h : a = b) : Ending.returned (.int .u64 a) = .returned (.int .u64 b) := by rw [h]
theorem ret_bool {a b : Bool} (h : a = b) : Ending.returned (.bool a) = .returned (.bool b) := by rw [h]
theorem width_any (k : Int) (w : World) :
  Calls Tryz.prog 114 #[.int .i64 k] w fun e w' => e = .returned (.int .i64 (Wd.wid k)) ∧ w' = w := by
 go_enter Tryz.func114, Tryz.ntmps114
 go_wp2
 all_goals (go_ret; refine ⟨ret_i64 ?_, rfl⟩; simp only [beq_iff_eq, beq_eq_false_iff_ne] at *; unfold Wd.wid; simp [*])
theorem signed_any (k : Int) (w : World) :
  Calls Tryz.prog 134 #[.int .i64 k] w fun e w' => e = .returned (.bool (Wd.sgnB k)) ∧ w' = w := by
 go_enter Tryz.func134, Tryz.ntmps134
 go_wp2
 all_goals (go_ret; refine ⟨ret_bool ?_, rfl⟩; simp only [beq_iff_eq, beq_eq_false_iff_ne] at *; unfold Wd.sgnB; first | (rw [Bool.eq_iff_iff]; simp; omega))
theorem int_any (k : Int) (w : World) :
  Calls Tryz.prog 146 #[.int .i64 k] w fun e w' => e = .returned (.bool (Wd.intB k)) ∧ w' = w := by
 go_enter Tryz.func146, Tryz.ntmps146
 go_wp2_with (go_at_call 134; refine (signed_any _ _).mono ?_; rintro e w' ⟨rfl, rfl⟩)
 all_goals (go_ret; refine ⟨ret_bool ?_, rfl⟩; simp only [beq_iff_eq, beq_eq_false_iff_ne] at *; simp only [Wd.intB, Wd.sgnB]; first | (rw [Bool.eq_iff_iff]; simp; omega))
theorem number_any (k : Int) (w : World) :
  Calls Tryz.prog 139 #[.int .i64 k] w fun e w' => e = .returned (.bool (Wd.numB k)) ∧ w' = w := by
 go_enter Tryz.func139, Tryz.ntmps139
 go_wp2_with (go_at_call 146; refine (int_any _ _).mono ?_; rintro e w' ⟨rfl, rfl⟩)
 all_goals (go_ret; refine ⟨ret_bool ?_, rfl⟩; simp only [Wd.intB, Wd.numB] at *; first | (rw [Bool.eq_iff_iff]; simp at *; omega))
theorem compares_any (k : Int) (w : World) :
  Calls Tryz.prog 145 #[.int .i64 k] w fun e w' => e = .returned (.bool (Wd.cmpB k)) ∧ w' = w := by
 go_enter Tryz.func145, Tryz.ntmps145
 go_wp2
 all_goals (go_ret; refine ⟨ret_bool ?_, rfl⟩; simp only [Wd.cmpB] at *; first | (rw [Bool.eq_iff_iff]; simp at *; omega))
theorem hasUn_any (op k : Int) (w : World) :
  Calls Tryz.prog 137 #[.int .i64 op, .int .i64 k] w fun e w' => e = .returned (.bool (Wd.hasUnB op k)) ∧ w' = w := by
 go_enter Tryz.func137, Tryz.ntmps137
 go_wp2_with (go_at_call 146; refine (int_any _ _).mono ?_; rintro e w' ⟨rfl, rfl⟩)
 all_goals (go_ret; refine ⟨ret_bool ?_, rfl⟩; simp only [Wd.hasUnB, Wd.intB, Wd.numB] at *; first | (rw [Bool.eq_iff_iff]; simp at *; omega))
theorem hasBin_any (op k : Int) (w : World) :
  Calls Tryz.prog 131 #[.int .i64 op, .int .i64 k] w fun e w' => e = .returned (.bool (Wd.hasBinB op k)) ∧ w' = w := by
 go_enter Tryz.func131, Tryz.ntmps131
 go_wp2_with (first | (go_at_call 146; refine (int_any _ _).mono ?_; rintro e w' ⟨rfl, rfl⟩) | (go_at_call 145; refine (compares_any _ _).mono ?_; rintro e w' ⟨rfl, rfl⟩))
 all_goals (go_ret; refine ⟨ret_bool ?_, rfl⟩; simp only [Wd.hasBinB, Wd.intB, Wd.cmpB] at *; first | (rw [Bool.eq_iff_iff]; simp at *; omega))
theorem canon_any (k x : Int) (w : World) (hx : 0 ≤ x) (hx2 : x < 18446744073709551616) :
    Calls Tryz.prog 123 #[.int .i64 k, .int .u64 x] w fun e w' => e = .returned (.int .u64 (Wd.canon k x)) ∧ w' = w := by
  rcases Wd.kinds k with h | h | h | h | h | h | h | h | h | h | h | (h | h)
  all_goals
    first | subst h | skip
    go_enter Tryz.func123, Tryz.ntmps123
    go_wp2
    go_ret
    refine ⟨ret_u64 ?_, rfl⟩
    first
      | (simp only [Wd.canon1, Wd.canon2, Wd.canon3, Wd.canon4, Wd.canon5, Wd.canon6, Wd.canon7, Wd.canon8, Wd.canon9, Wd.canon10, Wd.canon11, IntKind.wrap_u64, wrap64]; omega)
      | exact (Wd.canon_out k x (by omega)).symm
theorem is_any (k x : Int) (w : World) (hx : 0 ≤ x) (hx2 : x < 18446744073709551616) :
    Calls Tryz.prog 132 #[.int .i64 k, .int .u64 x] w fun e w' => e = .returned (.bool (Wd.isB k x)) ∧ w' = w := by
  by_cases hk : 1 ≤ k ∧ k ≤ 11
  · have hw : 0 < Wd.wid k := by unfold Wd.wid; repeat' split
                                 all_goals omega
    have hi : Wd.isB k x = (Wd.canon k x == x) := by simp [Wd.isB, hk]
    have Hi : Hid (_ = _) := hi
    clear hi hk
    go_enter Tryz.func132, Tryz.ntmps132
    go_wp2_with (first | (go_at_call 114; refine (width_any _ _).mono ?_; rintro e w' ⟨rfl, rfl⟩) | (go_at_call 123; refine (canon_any _ _ _ (by assumption) (by assumption)).mono ?_; rintro e w' ⟨rfl, rfl⟩))
    go_ret
    exact ⟨ret_bool Hi.out.symm, rfl⟩
  · have hw : ¬ 0 < Wd.wid k := by unfold Wd.wid; repeat' split
                                   all_goals omega
    have hi : Wd.isB k x = false := by unfold Wd.isB; rw [Bool.and_eq_false_iff]; left; simp; omega
    have Hi : Hid (_ = _) := hi
    clear hi hk
    go_enter Tryz.func132, Tryz.ntmps132
    go_wp2_with (first | (go_at_call 114; refine (width_any _ _).mono ?_; rintro e w' ⟨rfl, rfl⟩) | (go_at_call 123; refine (canon_any _ _ _ (by assumption) (by assumption)).mono ?_; rintro e w' ⟨rfl, rfl⟩))
    go_ret
    exact ⟨ret_bool Hi.out.symm, rfl⟩
end Go.Proofs.YtkiockffejlnhaaGreatDoor
namespace Go.Proofs.YtkiockffejlnhaaGreatDoor
set_option maxRecDepth 100000
set_option maxHeartbeats 32000000
open Go.RowKit
set_option linter.unusedVariables false
namespace Wd
def by' (k : Int) : Int := (wid k + 7) / 8
end Wd
namespace Wd
def wordB (k : Int) : Bool := decide (1 ≤ k) && decide (k ≤ 11)
end Wd
theorem rsigned_any (k : Int) (w : World) :
    Calls Tryz.prog 144 #[.int .i64 k] w fun e w' => e = .returned (.bool (Wd.sgnB k)) ∧ w' = w := by
  go_enter Tryz.func144, Tryz.ntmps144
  go_wp2
  all_goals (go_ret; refine ⟨ret_bool ?_, rfl⟩; simp only [Wd.sgnB] at *; first | (rw [Bool.eq_iff_iff]; simp at *; omega))
theorem rword_any (k : Int) (w : World) :
    Calls Tryz.prog 101 #[.int .i64 k] w fun e w' => e = .returned (.bool (Wd.wordB k)) ∧ w' = w := by
  go_enter Tryz.func101, Tryz.ntmps101
  go_wp2
  all_goals (go_ret; refine ⟨ret_bool ?_, rfl⟩; simp only [Wd.wordB] at *; first | (rw [Bool.eq_iff_iff]; simp at *; omega))
theorem rcanon_any (k x : Int) (w : World) (hx : 0 ≤ x) (hx2 : x < 18446744073709551616) :
    Calls Tryz.prog 129 #[.int .i64 k, .int .u64 x] w fun e w' => e = .returned (.int .u64 (Wd.canon k x)) ∧ w' = w := by
  rcases Wd.kinds k with h | h | h | h | h | h | h | h | h | h | h | h
  all_goals first
    | (subst h
       go_enter Tryz.func129, Tryz.ntmps129
       go_wp2
       go_ret
       refine ⟨ret_u64 ?_, rfl⟩
       simp only [Wd.canon1, Wd.canon2, Wd.canon3, Wd.canon4, Wd.canon5, Wd.canon6, Wd.canon7, Wd.canon8, Wd.canon9, Wd.canon10, Wd.canon11, IntKind.wrap_u64, wrap64]; omega)
    | (have hw : Wd.wordB k = false := by unfold Wd.wordB; simp; omega
       have Hz : Hid (Wd.canon k x = 0) := Wd.canon_out k x h
       clear h
       go_enter Tryz.func129, Tryz.ntmps129
       go_wp2_with (go_at_call 101; refine (rword_any _ _).mono ?_; rintro e w' ⟨rfl, rfl⟩)
       go_ret
       exact ⟨ret_u64 Hz.out.symm, rfl⟩)
theorem rint_any (k : Int) (w : World) :
    Calls Tryz.prog 106 #[.int .i64 k] w fun e w' => e = .returned (.bool (Wd.intB k)) ∧ w' = w := by
  go_enter Tryz.func106, Tryz.ntmps106
  go_wp2
  all_goals (go_ret; refine ⟨ret_bool ?_, rfl⟩; simp only [Wd.intB] at *; first | (rw [Bool.eq_iff_iff]; simp at *; omega))
theorem rshift_any (k : Int) (w : World) :
    Calls Tryz.prog 105 #[.int .i64 k] w fun e w' => e = .returned (.bool (Wd.shB k)) ∧ w' = w := by
  go_enter Tryz.func105, Tryz.ntmps105
  go_wp2
  all_goals (go_ret; refine ⟨ret_bool ?_, rfl⟩; unfold Wd.shB; first | rfl | (simp_all; done) | (rw [Bool.eq_iff_iff]; simp at *; omega))
theorem rhasUn_any (op k : Int) (w : World) :
    Calls Tryz.prog 99 #[.int .i64 op, .int .i64 k] w fun e w' => e = .returned (.bool (Wd.hasUnB op k)) ∧ w' = w := by
  go_enter Tryz.func99, Tryz.ntmps99
  go_wp2_with (go_at_call 106; refine (rint_any _ _).mono ?_; rintro e w' ⟨rfl, rfl⟩)
  all_goals (go_ret; refine ⟨ret_bool ?_, rfl⟩; simp only [Wd.hasUnB, Wd.intB, Wd.numB] at *; first | (rw [Bool.eq_iff_iff]; simp at *; omega))
theorem rhasBin_any (op k : Int) (w : World) :
    Calls Tryz.prog 98 #[.int .i64 op, .int .i64 k] w fun e w' => e = .returned (.bool (Wd.hasBinB op k)) ∧ w' = w := by
  go_enter Tryz.func98, Tryz.ntmps98
  go_wp2_with (go_at_call 106; refine (rint_any _ _).mono ?_; rintro e w' ⟨rfl, rfl⟩)
  all_goals (go_ret; refine ⟨ret_bool ?_, rfl⟩; simp only [Wd.hasBinB, Wd.intB, Wd.cmpB] at *; first | (rw [Bool.eq_iff_iff]; simp at *; omega))
theorem rhasConv_any (k t : Int) (w : World) :
    Calls Tryz.prog 100 #[.int .i64 k, .int .i64 t] w fun e w' => e = .returned (.bool (Wd.numB k && Wd.numB t)) ∧ w' = w := by
  go_enter Tryz.func100, Tryz.ntmps100
  go_wp2_with (go_at_call 106; refine (rint_any _ _).mono ?_; rintro e w' ⟨rfl, rfl⟩)
  all_goals (go_ret; refine ⟨ret_bool ?_, rfl⟩; simp only [Wd.intB, Wd.numB] at *; first | (rw [Bool.eq_iff_iff]; simp at *; omega))
end Go.Proofs.YtkiockffejlnhaaGreatDoor
namespace Go.Proofs.YtkiockffejlnhaaGreatDoor
open Go.RowKit
set_option linter.unusedVariables false
namespace Mm
def ld (m : Nat → Int) (a : Nat) : Nat → Int
 | 0 => 0
 | n + 1 => ld m a n + m (a + n) * 256 ^ n
def by8 (x : Int) (i : Nat) : Int := x / 256 ^ i % 256
def pt (m : Nat → Int) (a n : Nat) (g : Nat → Int) : Nat → Int := fun i => if a ≤ i ∧ i < a + n then g (i - a) else m i
def Fit (m : Nat → Int) : Prop := ∀ i, 0 ≤ m i ∧ m i < 256
theorem mod_mul (x a b : Int) (ha : 0 < a) (hb : 0 < b) : x % (a * b) = x % a + a * (x / a % b) := by
 have h1 := Int.mul_ediv_add_emod x a
 have h2 := Int.mul_ediv_add_emod (x / a) b
 have h3 := Int.emod_nonneg x (show a ≠ 0 by omega)
 have h4 := Int.emod_lt_of_pos x ha
 have h5 := Int.emod_nonneg (x / a) (show b ≠ 0 by omega)
 have h6 := Int.emod_lt_of_pos (x / a) hb
 have e : x = (x % a + a * (x / a % b)) + a * b * (x / a / b) := by
  have : a * (x / a) = a * (b * (x / a / b)) + a * (x / a % b) := by rw [← Int.mul_add, h2]
  rw [Int.mul_assoc]; omega
 have k1 : 0 ≤ a * (x / a % b) := Int.mul_nonneg (by omega) h5
 have k2 : a * (x / a % b) ≤ a * (b - 1) := Int.mul_le_mul_of_nonneg_left (by omega) (by omega)
 rw [Int.mul_sub, Int.mul_one] at k2
 have k3 : (x % a + a * (x / a % b) + a * b * (x / a / b)) % (a * b) = x % a + a * (x / a % b) := by
  rw [Int.add_mul_emod_self_left]
  exact Int.emod_eq_of_lt (by omega) (by omega)
 rw [← e] at k3
 exact k3
theorem pow_pos (n : Nat) : (0 : Int) < 256 ^ n := Int.pow_pos (by omega)
theorem ld_succ (m : Nat → Int) (a n : Nat) : ld m a (n + 1) = ld m a n + m (a + n) * 256 ^ n := rfl
theorem ld_rng {m : Nat → Int} (hm : Fit m) (a n : Nat) : 0 ≤ ld m a n ∧ ld m a n < 256 ^ n := by
 induction n with
 | zero => simp [ld]
 | succ n ih =>
  have hp := pow_pos n
  have h := hm (a + n)
  rw [ld_succ, Int.pow_succ]
  have h1 : 0 ≤ m (a + n) * 256 ^ n := Int.mul_nonneg h.1 (by omega)
  have h2 : m (a + n) * 256 ^ n ≤ 255 * 256 ^ n := Int.mul_le_mul_of_nonneg_right (by omega) (by omega)
  omega
theorem ld_congr {m m' : Nat → Int} {a a' n : Nat} (h : ∀ i, i < n → m (a + i) = m' (a' + i)) : ld m a n = ld m' a' n := by
 induction n with
 | zero => rfl
 | succ n ih => rw [ld_succ, ld_succ, ih (fun i hi => h i (by omega)), h n (by omega)]
theorem by8_rng (x : Int) (i : Nat) : 0 ≤ by8 x i ∧ by8 x i < 256 := by unfold by8; omega
theorem ld_by8 (x : Int) (n : Nat) : ld (by8 x) 0 n = x % 256 ^ n := by
 induction n with
 | zero => simp [ld, Int.emod_one]
 | succ n ih =>
  rw [ld_succ, ih, Nat.zero_add, Int.pow_succ, mod_mul _ _ _ (pow_pos n) (by omega)]
  unfold by8
  rw [Int.mul_comm]
theorem by8_mod (x : Int) (i n : Nat) (h : i < n) : by8 (x % 256 ^ n) i = by8 x i := by
 unfold by8
 obtain ⟨d, rfl⟩ : ∃ d, n = i + 1 + d := ⟨n - (i + 1), by omega⟩
 rw [Int.pow_add, Int.pow_succ]
 have hp := pow_pos i
 have hd := pow_pos d
 rw [show (256 : Int) ^ i * 256 * 256 ^ d = 256 ^ i * (256 * 256 ^ d) by rw [Int.mul_assoc]]
 rw [mod_mul _ _ _ hp (by omega), Int.add_mul_ediv_left _ _ (by omega), Int.ediv_eq_zero_of_lt (Int.emod_nonneg _ (by omega)) (Int.emod_lt_of_pos _ hp), Int.zero_add,
  Int.emod_emod_of_dvd _ ⟨256 ^ d, rfl⟩]
end Mm
namespace Mm
theorem toNat_small {n : Nat} {a : Nat} (h : a < 2 ^ n) : (BitVec.ofInt n (a : Int)).toNat = a := by
 rw [BitVec.toNat_ofInt]
 have e : (a : Int) % ((2 ^ n : Nat) : Int) = ((a % 2 ^ n : Nat) : Int) := by rw [Int.natCast_emod]
 rw [e, Int.toNat_natCast, Nat.mod_eq_of_lt h]
theorem wrap_small {k : IntKind} (hk : k.signed = false) {a : Nat} (h : a < 2 ^ k.bits) : k.wrap (a : Int) = a := by
 unfold IntKind.wrap
 have e : (a : Int) % 2 ^ k.bits = (a : Int) := by
  refine Int.emod_eq_of_lt (Int.natCast_nonneg _) ?_
  have : ((a : Nat) : Int) < ((2 ^ k.bits : Nat) : Int) := by exact_mod_cast h
  simpa using this
 simp [hk, e]
theorem bits_or {k : IntKind} (hk : k.signed = false) {a c : Nat} (ha : a < 2 ^ k.bits) (hc : c < 2 ^ k.bits) : bits .or k (a : Int) (c : Int) = ((a ||| c : Nat) : Int) := by
 show k.wrap ((BitVec.ofInt k.bits (a : Int) ||| BitVec.ofInt k.bits (c : Int)).toNat : Int) = _
 rw [BitVec.toNat_or, toNat_small ha, toNat_small hc]
 exact wrap_small hk (Nat.or_lt_two_pow ha hc)
theorem or_high {k : IntKind} (hk : k.signed = false) {x y : Int} {j : Nat} (x1 : 0 ≤ x) (x2 : x < 2 ^ j) (y1 : 0 ≤ y) (h : x + y * 2 ^ j < 2 ^ k.bits) : bits .or k x (y * 2 ^ j) = x + y * 2 ^ j := by
 obtain ⟨a, rfl⟩ := Int.eq_ofNat_of_zero_le x1
 obtain ⟨c, rfl⟩ := Int.eq_ofNat_of_zero_le y1
 have x2' : a < 2 ^ j := by exact_mod_cast x2
 have h' : a + c * 2 ^ j < 2 ^ k.bits := by exact_mod_cast h
 have e : ((c : Int) * 2 ^ j) = ((c * 2 ^ j : Nat) : Int) := by simp
 rw [e, bits_or hk (by omega) (by omega), Nat.or_comm, ← Nat.shiftLeft_eq, ← Nat.shiftLeft_add_eq_or_of_lt x2']
 rw [Nat.shiftLeft_eq]; omega
end Mm
def Bs (w : World) (ao : Option Addr) (n : Nat) (g : Nat → Int) : Prop :=
 n = 0 ∨ ∃ b off, ao = some ⟨b, off, none⟩ ∧ ∀ i, i < n → w.cell? ⟨b, off + i, none⟩ = some (.int .u8 (g i))
structure IsMem (t : TypeId) (w : World) (B D S : Nat) (m : Nat → Int) : Prop where
 head : w.rowIs B t 1 (fun _ => .slice (some ⟨D, 0, none⟩) S S)
 row : w.rowIs D 5 S (fun i => .int .u8 (m i))
 fit : Mm.Fit m
theorem IsMem.kept {t : TypeId} {w w' : World} {B D S : Nat} {m : Nat → Int} {row : Option Nat} (h : IsMem t w B D S m) (hg : w.grownBy w' row) (h1 : some B ≠ row) (h2 : some D ≠ row) : IsMem t w' B D S m :=
 ⟨h.head.of_block (hg.block B h.head.lt h1), h.row.of_block (hg.block D h.row.lt h2), h.fit⟩
theorem IsMem.below {t : TypeId} {w w' : World} {B D S N : Nat} {m : Nat → Int} (h : IsMem t w B D S m) (hg : Below N w w') (h1 : B < N) (h2 : D < N) : IsMem t w' B D S m :=
 ⟨h.head.of_block (hg.block B h1), h.row.of_block (hg.block D h2), h.fit⟩
theorem grown_trans {w w' w'' : World} {row : Option Nat} (h : w.grownBy w' row) (k : w'.grownBy w'' row) : w.grownBy w'' row :=
 ⟨k.os.trans h.os, k.tape.trans h.tape, k.output.trans h.output, Nat.le_trans h.size k.size, fun i hi hr => (k.block i (Nat.lt_of_lt_of_le hi h.size) hr).trans (h.block i hi hr)⟩
theorem gtr {w w' w'' : World} {row : Option Nat} (h : w.grownBy w' row) (k : w'.grownBy w'' row) : w.grownBy w'' row := grown_trans h k
theorem gal {w : World} {o : Obj} {row : Option Nat} : w.grownBy (w.alloc o) row := World.grownBy_alloc _ _ _
theorem gr0 {w : World} {row : Option Nat} : w.grownBy w row := World.grownBy.refl _ _
theorem grown_setCell (w : World) (b i : Nat) (v : Value) : w.grownBy (w.setCell ⟨b, i, none⟩ v) (some b) :=
 ⟨rfl, rfl, rfl, by simp [World.setCell], fun k hk hr => Below.heap_setCell _ _ _ _ (fun e => hr (by rw [e]))⟩
theorem grown_drewN {w w' : World} {row : Option Nat} (h : w.grownBy w' row) (n : Nat) : w.grownBy (w'.drewN n) row := by
 refine grown_trans h ?_
 induction n with
 | zero => exact ⟨rfl, rfl, rfl, Nat.le_refl _, fun _ _ _ => rfl⟩
 | succ n ih => exact grown_trans ih ⟨rfl, rfl, rfl, Nat.le_refl _, fun _ _ _ => rfl⟩
theorem grown_two {w w1 w2 : World} {b : Nat} (hg1 : w.grownBy w1 none) (hg2 : w1.grownBy w2 (some b)) (hb : w.heap.size ≤ b) : w.grownBy w2 none := by
 refine ⟨hg2.os.trans hg1.os, hg2.tape.trans hg1.tape, hg2.output.trans hg1.output, Nat.le_trans hg1.size hg2.size, fun k hk _ => ?_⟩
 have hne : some k ≠ some b := by intro e; injection e with e; omega
 exact (hg2.block k (Nat.lt_of_lt_of_le hk hg1.size) hne).trans (hg1.block k hk (by simp))
theorem grown_noneR {w w1 : World} (row : Option Nat) (h : w.grownBy w1 none) : w.grownBy w1 row := ⟨h.os, h.tape, h.output, h.size, fun k hk _ => h.block k hk (by simp)⟩
end Go.Proofs.YtkiockffejlnhaaGreatDoor
namespace Go.Proofs.YtkiockffejlnhaaGreatDoor
set_option linter.unusedVariables false
structure InV where
 op : Int
 a : Int
 b : Int
 c : Int
 k : Int
 sub : Int
 scale : Int
 imm : Int
 label : Int
namespace Rc
def fld (op : Int) : ByteArray :=
 if op = 1 ∨ op = 2 ∨ op = 20 ∨ op = 21 then ⟨#[65, 73]⟩ else if op = 3 ∨ op = 26 then ⟨#[65, 66]⟩ else if op = 4 then ⟨#[65, 66, 67, 75, 83]⟩
 else if op = 7 ∨ op = 8 then ⟨#[65, 66, 75, 83]⟩ else if op = 9 then ⟨#[65, 66, 73]⟩ else if op = 11 ∨ op = 13 then ⟨#[65, 66, 75, 73]⟩
 else if op = 15 then ⟨#[65, 66, 67, 73]⟩ else if op = 19 ∨ op = 23 ∨ op = 25 ∨ op = 29 then ⟨#[73]⟩ else if op = 27 ∨ op = 28 then ⟨#[65]⟩ else if op = 24 then ⟨#[45]⟩ else ⟨#[]⟩
def hasS (s : ByteArray) (c : Int) : Bool := s.data.toList.any (fun b => (b.toNat : Int) == c)
def regB (n : Int) : Bool := decide (0 ≤ n) && decide (n < 16)
def smallB (n : Int) : Bool := decide (-2147483648 ≤ n) && decide (n < 2147483648)
def kindB (v : InV) : Bool :=
 if v.op = 4 then Wd.hasBinB v.sub v.k else if v.op = 7 then Wd.hasUnB v.sub v.k else if v.op = 8 then Wd.numB v.sub && Wd.numB v.k else if v.op = 11 ∨ v.op = 13 then Wd.wordB v.k
 else if v.op = 15 then decide (0 ≤ v.imm) && decide (v.imm < 16) else if v.op = 25 then decide (0 ≤ v.imm) else if v.op = 29 then decide (0 < v.imm) else true
def mayB (v : InV) : Bool :=
 !(fld v.op).data.isEmpty && v.scale == 0 && v.label == 0 && regB v.a && regB v.b && regB v.c && smallB v.imm &&
 (hasS (fld v.op) 65 || v.a == 0) && (hasS (fld v.op) 66 || v.b == 0) && (hasS (fld v.op) 67 || v.c == 0) && (hasS (fld v.op) 75 || v.k == 0) && (hasS (fld v.op) 83 || v.sub == 0) && (hasS (fld v.op) 73 || v.imm == 0) && kindB v
def cc (v : InV) : Int := if v.op = 11 ∨ v.op = 13 then v.k else v.c
def nn (v : InV) : Int := if v.op = 4 ∨ v.op = 7 ∨ v.op = 8 then v.k + 256 * v.sub else v.imm
def enc (v : InV) (i : Nat) : Int :=
 if i = 0 then v.op % 256 else if i = 1 then v.a % 256 else if i = 2 then v.b % 256 else if i = 3 then cc v % 256 else Mm.by8 (nn v % 4294967296) (i - 4)
def s32 (u : Int) : Int := (u + 2147483648) % 4294967296 - 2147483648
def rd (g : Nat → Int) : InV :=
 let n := s32 (Mm.ld g 4 4)
 if g 0 = 4 ∨ g 0 = 7 ∨ g 0 = 8 then ⟨g 0, g 1, g 2, g 3, n % 256, n / 256, 0, 0, 0⟩
 else if g 0 = 11 ∨ g 0 = 13 then ⟨g 0, g 1, g 2, 0, g 3, 0, 0, n, 0⟩ else ⟨g 0, g 1, g 2, g 3, 0, 0, 0, n, 0⟩
def wideB (g : Nat → Int) : Bool := (g 0 == 4 || g 0 == 7 || g 0 == 8) && (decide (s32 (Mm.ld g 4 4) < 0) || decide (65536 ≤ s32 (Mm.ld g 4 4)))
def okB (g : Nat → Int) : Bool := !wideB g && mayB (rd g)
theorem codes (v : InV) (h : mayB v = true) : v.op = 1 ∨ v.op = 2 ∨ v.op = 3 ∨ v.op = 4 ∨ v.op = 7 ∨ v.op = 8 ∨ v.op = 9 ∨ v.op = 11 ∨ v.op = 13 ∨ v.op = 15 ∨ v.op = 19 ∨ v.op = 20 ∨ v.op = 21 ∨ v.op = 23 ∨ v.op = 24 ∨ v.op = 25 ∨ v.op = 26 ∨ v.op = 27 ∨ v.op = 28 ∨ v.op = 29 := by
 by_cases hh : (v.op = 1 ∨ v.op = 2 ∨ v.op = 3 ∨ v.op = 4 ∨ v.op = 7 ∨ v.op = 8 ∨ v.op = 9 ∨ v.op = 11 ∨ v.op = 13 ∨ v.op = 15 ∨ v.op = 19 ∨ v.op = 20 ∨ v.op = 21 ∨ v.op = 23 ∨ v.op = 24 ∨ v.op = 25 ∨ v.op = 26 ∨ v.op = 27 ∨ v.op = 28 ∨ v.op = 29)
 ·exact hh
 ·exfalso
  have e : fld v.op = ⟨#[]⟩ := by
   unfold fld
   rw [if_neg (by omega), if_neg (by omega), if_neg (by omega), if_neg (by omega), if_neg (by omega), if_neg (by omega), if_neg (by omega), if_neg (by omega), if_neg (by omega), if_neg (by omega)]
  unfold mayB at h
  rw [e] at h
  simp at h
theorem ld_enc (v : InV) : Mm.ld (enc v) 4 4 = nn v % 4294967296 := by
 have h : Mm.ld (enc v) 4 4 = Mm.ld (Mm.by8 (nn v % 4294967296)) 0 4 := Mm.ld_congr fun i hi => by
  unfold enc
  rw [if_neg (by omega), if_neg (by omega), if_neg (by omega), if_neg (by omega)]
  congr 1; omega
 rw [h, Mm.ld_by8]
 omega
theorem s32_mod (n : Int) (h1 : -2147483648 ≤ n) (h2 : n < 2147483648) : s32 (n % 4294967296) = n := by unfold s32; omega
structure Rng (v : InV) : Prop where
 sc : v.scale = 0
 lb : v.label = 0
 a1 : 0 ≤ v.a
 a2 : v.a < 16
 b1 : 0 ≤ v.b
 b2 : v.b < 16
 c1 : 0 ≤ v.c
 c2 : v.c < 16
 i1 : -2147483648 ≤ v.imm
 i2 : v.imm < 2147483648
 u0 : hasS (fld v.op) 65 = true ∨ v.a = 0
 u1 : hasS (fld v.op) 66 = true ∨ v.b = 0
 u2 : hasS (fld v.op) 67 = true ∨ v.c = 0
 u3 : hasS (fld v.op) 75 = true ∨ v.k = 0
 u4 : hasS (fld v.op) 83 = true ∨ v.sub = 0
 u5 : hasS (fld v.op) 73 = true ∨ v.imm = 0
 kd : kindB v = true
theorem rng {v : InV} (h : mayB v = true) : Rng v := by
 unfold mayB regB smallB at h
 simp only [Bool.and_eq_true, Bool.or_eq_true, beq_iff_eq, decide_eq_true_eq] at h
 obtain ⟨⟨⟨⟨⟨⟨⟨⟨⟨⟨⟨⟨⟨h0, h1⟩, h2⟩, h3⟩, h4⟩, h5⟩, h6⟩, h7⟩, h8⟩, h9⟩, h10⟩, h11⟩, h12⟩, h13⟩ := h
 exact ⟨h1, h2, h3.1, h3.2, h4.1, h4.2, h5.1, h5.2, h6.1, h6.2, h7, h8, h9, h10, h11, h12, h13⟩
theorem bin_rng {op k : Int} (h : Wd.hasBinB op k = true) : 1 ≤ op ∧ op ≤ 16 ∧ 1 ≤ k ∧ k ≤ 11 := by
 unfold Wd.hasBinB Wd.intB Wd.cmpB at h; simp at h; omega
theorem un_rng {op k : Int} (h : Wd.hasUnB op k = true) : 1 ≤ op ∧ op ≤ 3 ∧ 1 ≤ k ∧ k ≤ 11 := by
 unfold Wd.hasUnB Wd.numB Wd.intB at h; simp at h; omega
theorem conv_rng {f t : Int} (h : (Wd.numB f && Wd.numB t) = true) : 2 ≤ f ∧ f ≤ 10 ∧ 2 ≤ t ∧ t ≤ 10 := by
 unfold Wd.numB at h; simp at h; omega
theorem word_rng {k : Int} (h : Wd.wordB k = true) : 1 ≤ k ∧ k ≤ 11 := by unfold Wd.wordB at h; simpa using h
theorem back (v : InV) (h : mayB v = true) : rd (enc v) = v ∧ wideB (enc v) = false := by
 have r := rng h
 have hc := codes v h
 have e0 : enc v 0 = v.op := by show v.op % 256 = _; omega
 have e1 : enc v 1 = v.a := by show v.a % 256 = _; have := r.a1; have := r.a2; omega
 have e2 : enc v 2 = v.b := by show v.b % 256 = _; have := r.b1; have := r.b2; omega
 have e3 : enc v 3 = cc v % 256 := rfl
 obtain ⟨op, a, b, c, k, sub, sc, imm, lb⟩ := v
 obtain ⟨h1, h2, a1, a2, b1, b2, c1, c2, i1, i2, u0, u1, u2, u3, u4, u5, kd⟩ := r
 dsimp only at *
 subst h1 h2
 rcases hc with rfl | rfl | rfl | rfl | rfl | rfl | rfl | rfl | rfl | rfl | rfl | rfl | rfl | rfl | rfl | rfl | rfl | rfl | rfl | rfl
 all_goals try (replace u0 := u0.resolve_left (by decide))
 all_goals try (replace u1 := u1.resolve_left (by decide))
 all_goals try (replace u2 := u2.resolve_left (by decide))
 all_goals try (replace u3 := u3.resolve_left (by decide))
 all_goals try (replace u4 := u4.resolve_left (by decide))
 all_goals try (replace u5 := u5.resolve_left (by decide))
 all_goals try (replace kd := bin_rng (show Wd.hasBinB sub k = true from kd))
 all_goals try (replace kd := un_rng (show Wd.hasUnB sub k = true from kd))
 all_goals try (replace kd := conv_rng (show (Wd.numB sub && Wd.numB k) = true from kd))
 all_goals try (replace kd := word_rng (show Wd.wordB k = true from kd))
 all_goals
  unfold rd wideB
  rw [e0, e1, e2, e3, ld_enc]
  simp only [nn, cc, Int.reduceEq, or_self, or_false, or_true, if_true, if_false]
  rw [s32_mod _ (by omega) (by omega)]
  refine ⟨?_, ?_⟩
  ·simp only [InV.mk.injEq, true_and, and_true]; omega
  ·first | rfl | (simp; done) | (simp; omega)
theorem rd_congr {g g' : Nat → Int} (h : ∀ i, i < 8 → g i = g' i) : rd g = rd g' ∧ okB g = okB g' := by
 have l : Mm.ld g 4 4 = Mm.ld g' 4 4 := Mm.ld_congr fun i hi => h _ (by omega)
 have r : rd g = rd g' := by unfold rd; rw [l, h 0 (by omega), h 1 (by omega), h 2 (by omega), h 3 (by omega)]
 refine ⟨r, ?_⟩
 unfold okB wideB
 rw [r, l, h 0 (by omega)]
theorem inj {u v : InV} (hu : mayB u = true) (hv : mayB v = true) (h : ∀ i, i < 8 → enc u i = enc v i) : u = v := by
 rw [← (back u hu).1, ← (back v hv).1, (rd_congr h).1]
end Rc
namespace Lk
def pos (s : Nat → Int) : Nat → Int
  | 0 => 0
  | k + 1 => pos s k + s k
theorem pos_succ (s : Nat → Int) (k : Nat) : pos s (k + 1) = pos s k + s k := rfl
def fitB (x : Int) : Bool := decide (-128 ≤ x) && decide (x < 128)
theorem fitB_iff {x : Int} : fitB x = true ↔ -128 ≤ x ∧ x < 128 := by unfold fitB; simp
theorem fitB_no {x : Int} : fitB x = false ↔ x < -128 ∨ 128 ≤ x := by
  rw [← Bool.not_eq_true, fitB_iff]; omega
structure Sh where
  n : Nat
  j : Nat → Bool
  tg : Nat → Nat
  s : Nat → Int
  g : Int
structure Sh.Ok (P : Sh) : Prop where
  tg : ∀ i, i < P.n → P.j i = true → P.tg i ≤ P.n
  one : ∀ i, i < P.n → 1 ≤ P.s i
  le : ∀ i, i < P.n → P.j i = true → P.s i ≤ P.g
def Sh.size (P : Sh) (L : Nat → Bool) (i : Nat) : Int := if P.j i && L i then P.g else P.s i
def Sh.imm (P : Sh) (L : Nat → Bool) (i : Nat) : Int := pos (P.size L) (P.tg i) - pos (P.size L) (i + 1)
def Sh.over (P : Sh) (i m : Nat) : Int := if i < m ∧ m < P.tg i then 1 else if P.tg i ≤ m ∧ m < i then -1 else 0
def with1 (L : Nat → Bool) (m : Nat) : Nat → Bool := fun i => L i || decide (i = m)
def Sh.Closed (P : Sh) (L : Nat → Bool) : Prop := ∀ i, i < P.n → P.j i = true → fitB (P.imm L i) = false → L i = true
structure Sh.Least (P : Sh) (L : Nat → Bool) : Prop where
  cl : P.Closed L
  le : ∀ C, P.Closed C → ∀ i, i < P.n → P.j i = true → L i = true → C i = true
theorem pos_congr {s s' : Nat → Int} : ∀ {k : Nat}, (∀ i, i < k → s i = s' i) → pos s k = pos s' k
  | 0, _ => rfl
  | k + 1, h => by unfold pos; rw [pos_congr (fun i hi => h i (by omega)), h k (by omega)]
theorem pos_le {s s' : Nat → Int} {a : Nat} : ∀ {b : Nat}, a ≤ b → (∀ i, a ≤ i → i < b → s i ≤ s' i) → pos s b - pos s a ≤ pos s' b - pos s' a
  | 0, h, _ => by have : a = 0 := by omega
                  subst this; simp
  | b + 1, h, hs => by
    by_cases e : a = b + 1
    · subst e; simp
    · have := pos_le (b := b) (by omega) (fun i h1 h2 => hs i h1 (by omega))
      have h2 := hs b (by omega) (by omega)
      rw [pos_succ, pos_succ]
      omega
theorem pos_count {s : Nat → Int} {a : Nat} : ∀ {b : Nat}, a ≤ b → (∀ i, a ≤ i → i < b → 1 ≤ s i) → ((b : Int) - a) ≤ pos s b - pos s a
  | 0, h, _ => by have : a = 0 := by omega
                  subst this; simp
  | b + 1, h, hs => by
    by_cases e : a = b + 1
    · subst e; simp
    · have := pos_count (b := b) (by omega) (fun i h1 h2 => hs i h1 (by omega))
      have h2 := hs b (by omega) (by omega)
      rw [pos_succ]
      omega
theorem Sh.Ok.size1 {P : Sh} (h : P.Ok) (L : Nat → Bool) {i : Nat} (hi : i < P.n) : 1 ≤ P.size L i := by
  unfold Sh.size
  have h1 := h.one i hi
  split
  · next hh => have := h.le i hi (by simp at hh; exact hh.1); omega
  · exact h1
theorem Sh.Ok.size_mono {P : Sh} (h : P.Ok) {L L' : Nat → Bool} (hl : ∀ i, i < P.n → P.j i = true → L i = true → L' i = true) {i : Nat} (hi : i < P.n) : P.size L i ≤ P.size L' i := by
  unfold Sh.size
  have h1 := h.le i hi
  have h2 := hl i hi
  cases hj : P.j i <;> cases hL : L i <;> cases hL' : L' i <;> simp_all
theorem Sh.Ok.far_mono {P : Sh} (h : P.Ok) {L L' : Nat → Bool} (hl : ∀ i, i < P.n → P.j i = true → L i = true → L' i = true) {i : Nat} (hi : i < P.n) (hj : P.j i = true) (hf : fitB (P.imm L i) = false) : fitB (P.imm L' i) = false := by
  rw [fitB_no] at hf ⊢
  have ht := h.tg i hi hj
  unfold Sh.imm at hf ⊢
  by_cases hd : i + 1 ≤ P.tg i
  · have h1 := pos_le hd (s := P.size L) (s' := P.size L') (fun k _ hk => h.size_mono hl (by omega))
    have h2 := pos_count hd (s := P.size L) (fun k _ hk => h.size1 L (by omega))
    omega
  · have h1 := pos_le (a := P.tg i) (b := i + 1) (by omega) (s := P.size L) (s' := P.size L') (fun k _ hk => h.size_mono hl (by omega))
    have h2 := pos_count (a := P.tg i) (b := i + 1) (by omega) (s := P.size L) (fun k _ hk => h.size1 L (by omega))
    omega
theorem Sh.Least.far {P : Sh} (h : P.Ok) {L : Nat → Bool} (hl : P.Least L) {i : Nat} (hi : i < P.n) (hj : P.j i = true) : L i = !fitB (P.imm L i) := by
  have hc : P.Closed (fun k => P.j k && decide (k < P.n) && !fitB (P.imm L k)) := by
    intro k hk hkj hf
    have : fitB (P.imm L k) = false := by
      refine h.far_mono (fun m hm hmj hx => ?_) hk hkj hf
      simp at hx
      exact hl.cl m hm hmj hx.2
    simp [hkj, hk, this]
  cases hL : L i
  · cases hf : fitB (P.imm L i)
    · have := hl.cl i hi hj hf
      rw [hL] at this
      cases this
    · rfl
  · have := hl.le _ hc i hi hj hL
    simp at this
    rw [this.2]
    rfl
theorem Sh.Least.same {P : Sh} {L L' : Nat → Bool} (hl : P.Least L) (hl' : P.Least L') {i : Nat} (hi : i < P.n) : P.size L i = P.size L' i := by
  unfold Sh.size
  cases hj : P.j i
  · simp
  · have e : L i = L' i := by
      cases hL : L i <;> cases hL' : L' i
      · rfl
      · have := hl'.le L hl.cl i hi hj hL'
        rw [hL] at this; cases this
      · have := hl.le L' hl'.cl i hi hj hL
        rw [hL'] at this; cases this
      · rfl
    rw [e]
theorem pos_with (P : Sh) (L : Nat → Bool) (m : Nat) (hj : P.j m = true) : ∀ k, pos (P.size (with1 L m)) k = pos (P.size L) k + if m < k then P.g - P.size L m else 0
  | 0 => by simp [pos]
  | k + 1 => by
    unfold pos
    rw [pos_with P L m hj k]
    by_cases e : k = m
    · subst e
      have : P.size (with1 L k) k = P.g := by unfold Sh.size with1; simp [hj]
      rw [this]
      simp
      omega
    · have : P.size (with1 L m) k = P.size L k := by unfold Sh.size with1; simp [e]
      rw [this]
      by_cases hk : m < k
      · rw [if_pos hk, if_pos (by omega)]; omega
      · rw [if_neg hk, if_neg (by omega)]; omega
theorem imm_with (P : Sh) (L : Nat → Bool) (m : Nat) (hj : P.j m = true) {i : Nat} (hi : i ≠ m) : P.imm (with1 L m) i = P.imm L i + (P.g - P.size L m) * P.over i m := by
  unfold Sh.imm Sh.over
  rw [pos_with P L m hj, pos_with P L m hj]
  by_cases h1 : m < P.tg i <;> by_cases h2 : m < i + 1
  · rw [if_pos h1, if_pos h2, if_neg (by omega), if_neg (by omega)]; omega
  · rw [if_pos h1, if_neg h2, if_pos (by omega)]; omega
  · rw [if_neg h1, if_pos h2, if_neg (by omega), if_pos (by omega)]; omega
  · rw [if_neg h1, if_neg h2, if_neg (by omega), if_neg (by omega)]; omega
theorem over_far {P : Sh} (h : P.Ok) (L : Nat → Bool) {i m : Nat} (hi : i < P.n) (hj : P.j i = true) (hf : fitB (P.imm L i) = true) (hw : i + 128 < m ∨ m + 128 < i) : P.over i m = 0 := by
  rw [fitB_iff] at hf
  have ht := h.tg i hi hj
  unfold Sh.imm at hf
  unfold Sh.over
  by_cases h1 : i < m ∧ m < P.tg i
  · have h2 := pos_count (a := i + 1) (b := P.tg i) (by omega) (s := P.size L) (fun k _ hk => h.size1 L (by omega))
    omega
  · rw [if_neg h1]
    by_cases h3 : P.tg i ≤ m ∧ m < i
    · have h2 := pos_count (a := P.tg i) (b := i + 1) (by omega) (s := P.size L) (fun k _ hk => h.size1 L (by omega))
      omega
    · rw [if_neg h3]
structure St (P : Sh) (L : Nat → Bool) (J : Nat → Int) (Q : Nat → Prop) : Prop where
  fits : ∀ i, i < P.n → P.j i = true → fitB (J i) = true → J i = P.imm L i
  none : ∀ i, i < P.n → P.j i = false → J i = 0
  far : ∀ i, i < P.n → P.j i = true → fitB (J i) = false → fitB (P.imm L i) = false ∧ (L i = true ∨ Q i)
  long : ∀ i, i < P.n → P.j i = true → L i = true → fitB (J i) = false
  must : ∀ i, i < P.n → P.j i = true → fitB (J i) = false → ∀ C, P.Closed C → C i = true
theorem St.least {P : Sh} {L : Nat → Bool} {J : Nat → Int} {Q : Nat → Prop} (h : St P L J Q) (hq : ∀ i, i < P.n → P.j i = true → ¬ Q i) : P.Least L where
  cl := fun i hi hj hf => by
    cases hJ : fitB (J i)
    · rcases (h.far i hi hj hJ).2 with h1 | h1
      · exact h1
      · exact absurd h1 (hq i hi hj)
    · rw [← h.fits i hi hj hJ, hJ] at hf
      cases hf
  le := fun C hC i hi hj hL => h.must i hi hj (h.long i hi hj hL) C hC
def bump (P : Sh) (L : Nat → Bool) (J : Nat → Int) (m : Nat) (i : Nat) : Int := if fitB (J i) then J i + (P.g - P.size L m) * (if P.j i then P.over i m else 0) else J i
theorem St.bump {P : Sh} (h : P.Ok) {L : Nat → Bool} {J : Nat → Int} {Q : Nat → Prop} (st : St P L J Q) {m : Nat} (hm : m < P.n) (hmj : P.j m = true) (hmf : fitB (J m) = false) :
    St P (with1 L m) (bump P L J m) (fun i => (Q i ∧ i ≠ m) ∨ (fitB (J i) = true ∧ fitB (bump P L J m i) = false)) := by
  have hmono : ∀ i, i < P.n → P.j i = true → L i = true → with1 L m i = true := fun i _ _ h => by unfold with1; simp [h]
  have hb : ∀ i, i < P.n → P.j i = true → fitB (J i) = true → Lk.bump P L J m i = P.imm (with1 L m) i := fun i hi hj hf => by
    have : i ≠ m := by intro e; subst e; rw [hf] at hmf; cases hmf
    unfold Lk.bump
    rw [if_pos hf, if_pos hj, imm_with P L m hmj this, st.fits i hi hj hf]
  refine ⟨fun i hi hj hf => ?_, fun i hi hj => ?_, fun i hi hj hf => ?_, fun i hi hj hL => ?_, fun i hi hj hf C hC => ?_⟩
  · cases hJ : fitB (J i)
    · unfold Lk.bump at hf
      rw [hJ] at hf
      simp at hf
      rw [hJ] at hf
      cases hf
    · exact hb i hi hj hJ
  · have := st.none i hi hj
    unfold Lk.bump
    rw [hj, this]
    simp
  · cases hJ : fitB (J i)
    · have := st.far i hi hj hJ
      refine ⟨h.far_mono hmono hi hj this.1, ?_⟩
      rcases this.2 with h1 | h1
      · exact .inl (hmono i hi hj h1)
      · by_cases e : i = m
        · exact .inl (by unfold with1; simp [e])
        · exact .inr (.inl ⟨h1, e⟩)
    · have e := hb i hi hj hJ
      rw [e] at hf
      exact ⟨hf, .inr (.inr ⟨rfl, by rw [e]; exact hf⟩)⟩
  · have : fitB (J i) = false := by
      by_cases e : i = m
      · subst e; exact hmf
      · refine st.long i hi hj ?_
        unfold with1 at hL
        simpa [e] using hL
    unfold Lk.bump
    rw [this]
    simpa using this
  · cases hJ : fitB (J i)
    · exact st.must i hi hj hJ C hC
    · rw [hb i hi hj hJ] at hf
      refine hC i hi hj (h.far_mono (fun k hk hkj hL => ?_) hi hj hf)
      by_cases e : k = m
      · subst e; exact st.must k hk hkj hmf C hC
      · refine st.must k hk hkj (st.long k hk hkj ?_) C hC
        unfold with1 at hL
        simpa [e] using hL
theorem St.start {P : Sh} (h : P.Ok) : St P (fun _ => false) (fun i => if P.j i then P.imm (fun _ => false) i else 0) (fun i => fitB (P.imm (fun _ => false) i) = false) where
  fits := fun i hi hj _ => by simp [hj]
  none := fun i hi hj => by simp [hj]
  far := fun i hi hj hf => by
    simp only [hj, if_true] at hf
    exact ⟨hf, .inr hf⟩
  long := fun i hi hj hL => by cases hL
  must := fun i hi hj hf C hC => by
    simp only [hj, if_true] at hf
    exact hC i hi hj (h.far_mono (fun _ _ _ h => by cases h) hi hj hf)
theorem bump_near {P : Sh} (h : P.Ok) {L : Nat → Bool} {J : Nat → Int} {Q : Nat → Prop} (st : St P L J Q) {m i : Nat} (hi : i < P.n) (hw : i + 128 < m ∨ m + 128 < i) : bump P L J m i = J i := by
  unfold bump
  split
  · next hf =>
    split
    · next hj => rw [over_far h L hi hj (by rw [← st.fits i hi hj hf]; exact hf) hw]; simp
    · simp
  · rfl
def cnt (J : Nat → Int) : Nat → Nat
  | 0 => 0
  | k + 1 => cnt J k + if fitB (J k) then 1 else 0
theorem cnt_le (J : Nat → Int) : ∀ k, cnt J k ≤ k
  | 0 => Nat.le_refl _
  | k + 1 => by have := cnt_le J k; unfold cnt; split <;> omega
theorem cnt_congr {J J' : Nat → Int} : ∀ {k : Nat}, (∀ i, i < k → fitB (J i) = fitB (J' i)) → cnt J k = cnt J' k
  | 0, _ => rfl
  | k + 1, h => by unfold cnt; rw [cnt_congr (fun i hi => h i (by omega)), h k (by omega)]
theorem cnt_drop {J J' : Nat → Int} {m : Nat} (h1 : fitB (J m) = true) (h2 : fitB (J' m) = false) : ∀ {k : Nat}, m < k → (∀ i, i < k → i ≠ m → fitB (J i) = fitB (J' i)) → cnt J k = cnt J' k + 1
  | 0, h, _ => by omega
  | k + 1, hk, h => by
    by_cases e : m = k
    · subst e
      unfold cnt
      rw [h1, h2, cnt_congr (fun i hi => h i (by omega) (by omega))]
      simp
    · unfold cnt
      rw [cnt_drop h1 h2 (k := k) (by omega) (fun i hi => h i (by omega)), h k (by omega) (by omega)]
      omega
def part (J J' : Nat → Int) (k : Nat) (i : Nat) : Int := if i < k then J' i else J i
end Lk
end Go.Proofs.YtkiockffejlnhaaGreatDoor
namespace Go.Proofs.YtkiockffejlnhaaGreatDoor
set_option maxRecDepth 100000
set_option maxHeartbeats 32000000
open Go.RowKit
set_option linter.unusedVariables false
theorem isReg_any (k : Int) (w : World) :
  Calls Tryz.prog 110 #[.int .i64 k] w fun e w' => e = .returned (.bool (Rc.regB k)) ∧ w' = w := by
 go_enter Tryz.func110, Tryz.ntmps110
 go_wp2
 all_goals (go_ret; refine ⟨ret_bool ?_, rfl⟩; simp only [Rc.regB] at *; first | (rw [Bool.eq_iff_iff]; simp at *; omega))
theorem rreg_any (k : Int) (w : World) :
  Calls Tryz.prog 95 #[.int .i64 k] w fun e w' => e = .returned (.bool (Rc.regB k)) ∧ w' = w := by
 go_enter Tryz.func95, Tryz.ntmps95
 go_wp2
 all_goals (go_ret; refine ⟨ret_bool ?_, rfl⟩; simp only [Rc.regB] at *; first | (rw [Bool.eq_iff_iff]; simp at *; omega))
theorem rsmall_any (k : Int) (w : World) :
  Calls Tryz.prog 71 #[.int .i64 k] w fun e w' => e = .returned (.bool (Rc.smallB k)) ∧ w' = w := by
 go_enter Tryz.func71, Tryz.ntmps71
 go_wp2
 all_goals (go_ret; refine ⟨ret_bool ?_, rfl⟩; simp only [Rc.smallB] at *; first | (rw [Bool.eq_iff_iff]; simp at *; omega))
theorem join_any (k s : Int) (w : World) :
  Calls Tryz.prog 109 #[.int .i64 k, .int .i64 s] w fun e w' => e = .returned (.int .i64 (wrap64 (k + 256 * s))) ∧ w' = w := by
 go_enter Tryz.func109, Tryz.ntmps109
 go_wp2
 go_ret
 refine ⟨ret_i64 ?_, rfl⟩
 unfold wrap64; omega
theorem fields_any (op : Int) (w : World) :
  Calls Tryz.prog 94 #[.int .i64 op] w fun e w' => e = .returned (.string (Rc.fld op)) ∧ w' = w := by
 go_enter Tryz.func94, Tryz.ntmps94
 go_wp2
 all_goals (go_ret; refine ⟨?_, rfl⟩; simp only [beq_iff_eq, beq_eq_false_iff_ne] at *; unfold Rc.fld; simp [*])
namespace Mm
theorem and_255i (n : Int) : bits .and .i64 n 255 = n % 256 := by
 show IntKind.i64.wrap ((BitVec.ofInt 64 n &&& BitVec.ofInt 64 255).toNat : Int) = _
 have e : (BitVec.ofInt 64 n &&& BitVec.ofInt 64 255).toNat = (n % 256).toNat := by
  rw [BitVec.toNat_and, BitVec.toNat_ofInt, show (BitVec.ofInt 64 255).toNat = 2 ^ 8 - 1 from rfl, Nat.and_two_pow_sub_one_eq_mod]
  omega
 rw [e, IntKind.wrap_i64]
 omega
end Mm
namespace Rc
theorem has_true {s : ByteArray} {c : Int} {k : Nat} (hk : k < s.size) (h : ((s[k].toNat : Int) == c) = true) : hasS s c = true := by
 unfold hasS
 rw [List.any_eq_true]
 exact ⟨s[k], by simp [ByteArray.getElem_eq_getElem_data], h⟩
theorem has_false {s : ByteArray} {c : Int} (h : ∀ k (hk : k < s.size), ((s[k].toNat : Int) == c) = false) : hasS s c = false := by
 unfold hasS
 rw [List.any_eq_false]
 intro x hx
 obtain ⟨k, hk, rfl⟩ := List.getElem_of_mem hx
 have := h k (by simpa using hk)
 rw [ByteArray.getElem_eq_getElem_data] at this
 simp only [Array.getElem_toList]
 rw [this]; simp
end Rc
theorem part_any (n : Int) (w : World) (h1 : -9223372036854775808 ≤ n) (h2 : n ≤ 9223372036854775807) :
  Calls Tryz.prog 76 #[.int .i64 n] w fun e w' => e = .returned (.tuple #[.int .i64 (n % 256), .int .i64 (n / 256)]) ∧ w' = w := by
 have HB : Hid (bits .and .i64 n 255 = n % 256) := Mm.and_255i n
 go_enter Tryz.func76, Tryz.ntmps76
 go_wp2
 go_ret2
 refine ⟨?_, rfl⟩
 rw [← HB.out]; rfl
theorem ffits_any (c a b k n : Int) (w : World) :
  Calls Tryz.prog 78 #[.agg #[.int .i64 c, .int .i64 a, .int .i64 b, .int .i64 k, .int .i64 n]] w fun e w' => e = .returned (.bool (Rc.smallB n)) ∧ w.grownBy w' none := by
 go_enter Tryz.func78, Tryz.ntmps78
 go_wp2
 go_ret
 refine ⟨ret_bool ?_, gal⟩
 unfold Rc.smallB wrap64 wrap32
 rw [Bool.eq_iff_iff]; simp; omega
theorem has_any (s : ByteArray) (c : Int) (w : World) (hs : s.size ≤ 1000) :
  Calls Tryz.prog 97 #[.string s, .int .u8 c] w fun e w' => e = .returned (.bool (Rc.hasS s c)) ∧ w' = w := by
 go_enter Tryz.func97, Tryz.ntmps97
 go_wp2
 go_loopw [5] (fun i wr => ∃ k : Nat, k ≤ s.size ∧ i = .int .i64 k ∧ wr = w ∧ ∀ j (hj : j < s.size), j < k → ((s[j].toNat : Int) == c) = false) (fun i _ => s.size - (intOf i).toNat)
 case atStart => exact ⟨0, Nat.zero_le _, rfl, rfl, fun _ _ h => absurd h (Nat.not_lt_zero _)⟩
 case round =>
  obtain ⟨k, hk, rfl, rfl, hf⟩ := hrel
  have HF : Hid (∀ j (hj : j < s.size), j < k → ((s[j].toNat : Int) == c) = false) := hf
  clear hf
  by_cases hlt : k < s.size
  ·cases hc : ((s[k].toNat : Int) == c)
   ·go_wp2
    go_roundw
    case rel => 
     refine ⟨k + 1, by omega, by go_num, trivial, fun j hj h => ?_⟩
     by_cases e : j = k
     ·subst e; exact hc
     ·exact HF.out j hj (by omega)
    case measure => simp [intOf]; omega
   ·have HT : Hid (Rc.hasS s c = true) := Rc.has_true hlt hc
    go_wp2
    go_ret
    exact ⟨ret_bool HT.out.symm, rfl⟩
  ·have HT : Hid (Rc.hasS s c = false) := Rc.has_false fun j hj => HF.out j hj (by omega)
   go_wp2
   go_ret
   exact ⟨ret_bool HT.out.symm, rfl⟩
theorem unused_any (s : ByteArray) (c n : Int) (w : World) (hs : s.size ≤ 1000) :
  Calls Tryz.prog 96 #[.string s, .int .u8 c, .int .i64 n] w fun e w' => e = .returned (.bool (Rc.hasS s c || n == 0)) ∧ w' = w := by
 cases hh : Rc.hasS s c
 all_goals
  go_enter Tryz.func96, Tryz.ntmps96
  go_wp2_with (go_at_call 97; refine (has_any _ _ _ hs).mono ?_; rw [hh]; rintro e w' ⟨rfl, rfl⟩)
  go_ret
  exact ⟨rfl, rfl⟩
end Go.Proofs.YtkiockffejlnhaaGreatDoor
namespace Go.Proofs.YtkiockffejlnhaaGreatDoor
open Go.RowKit
set_option linter.unusedVariables false
structure FmV where
 code : Int
 a : Int
 b : Int
 c : Int
 n : Int
namespace Rc
def pk (v : InV) : FmV :=
 if v.op = 1 ∨ v.op = 2 ∨ v.op = 20 ∨ v.op = 21 then ⟨v.op, v.a, 0, 0, v.imm⟩ else if v.op = 3 ∨ v.op = 26 then ⟨v.op, v.a, v.b, 0, 0⟩
 else if v.op = 4 then ⟨v.op, v.a, v.b, v.c, wrap64 (v.k + 256 * v.sub)⟩ else if v.op = 7 ∨ v.op = 8 then ⟨v.op, v.a, v.b, 0, wrap64 (v.k + 256 * v.sub)⟩
 else if v.op = 9 then ⟨v.op, v.a, v.b, 0, v.imm⟩ else if v.op = 11 ∨ v.op = 13 then ⟨v.op, v.a, v.b, v.k, v.imm⟩ else if v.op = 15 then ⟨v.op, v.a, v.b, v.c, v.imm⟩
 else if v.op = 19 ∨ v.op = 23 ∨ v.op = 25 ∨ v.op = 29 then ⟨v.op, 0, 0, 0, v.imm⟩ else if v.op = 27 ∨ v.op = 28 then ⟨v.op, v.a, 0, 0, 0⟩ else if v.op = 24 then ⟨v.op, 0, 0, 0, 0⟩ else ⟨0, 0, 0, 0, 0⟩
def unpk (f : FmV) : InV :=
 if f.code = 1 ∨ f.code = 2 ∨ f.code = 20 ∨ f.code = 21 then ⟨f.code, f.a, 0, 0, 0, 0, 0, f.n, 0⟩ else if f.code = 3 ∨ f.code = 26 then ⟨f.code, f.a, f.b, 0, 0, 0, 0, 0, 0⟩
 else if f.code = 4 then ⟨f.code, f.a, f.b, f.c, f.n % 256, f.n / 256, 0, 0, 0⟩ else if f.code = 7 ∨ f.code = 8 then ⟨f.code, f.a, f.b, 0, f.n % 256, f.n / 256, 0, 0, 0⟩
 else if f.code = 9 then ⟨f.code, f.a, f.b, 0, 0, 0, 0, f.n, 0⟩ else if f.code = 11 ∨ f.code = 13 then ⟨f.code, f.a, f.b, 0, f.c, 0, 0, f.n, 0⟩ else if f.code = 15 then ⟨f.code, f.a, f.b, f.c, 0, 0, 0, f.n, 0⟩
 else if f.code = 19 ∨ f.code = 23 ∨ f.code = 25 ∨ f.code = 29 then ⟨f.code, 0, 0, 0, 0, 0, 0, f.n, 0⟩ else if f.code = 27 ∨ f.code = 28 then ⟨f.code, f.a, 0, 0, 0, 0, 0, 0, 0⟩ else if f.code = 24 then ⟨f.code, 0, 0, 0, 0, 0, 0, 0, 0⟩ else ⟨0, 0, 0, 0, 0, 0, 0, 0, 0⟩
end Rc
def inst (v : InV) : Value := .agg #[.int .i64 v.op, .int .i64 v.a, .int .i64 v.b, .int .i64 v.c, .int .i64 v.k, .int .i64 v.sub, .int .i64 v.scale, .int .i64 v.imm, .int .i64 v.label]
def formv (f : FmV) : Value := .agg #[.int .i64 f.code, .int .i64 f.a, .int .i64 f.b, .int .i64 f.c, .int .i64 f.n]
namespace Rc
theorem ops (o : Int) : o = 1 ∨ o = 2 ∨ o = 20 ∨ o = 21 ∨ o = 3 ∨ o = 26 ∨ o = 4 ∨ o = 7 ∨ o = 8 ∨ o = 9 ∨ o = 11 ∨ o = 13 ∨ o = 15 ∨ o = 19 ∨ o = 23 ∨ o = 25 ∨ o = 29 ∨ o = 27 ∨ o = 28 ∨ o = 24 ∨ ((o == 1) = false ∧ (o == 2) = false ∧ (o == 20) = false ∧ (o == 21) = false ∧ (o == 3) = false ∧ (o == 26) = false ∧ (o == 4) = false ∧ (o == 7) = false ∧ (o == 8) = false ∧ (o == 9) = false ∧ (o == 11) = false ∧ (o == 13) = false ∧ (o == 15) = false ∧ (o == 19) = false ∧ (o == 23) = false ∧ (o == 25) = false ∧ (o == 29) = false ∧ (o == 27) = false ∧ (o == 28) = false ∧ (o == 24) = false) := by
 by_cases h : (o = 1 ∨ o = 2 ∨ o = 20 ∨ o = 21 ∨ o = 3 ∨ o = 26 ∨ o = 4 ∨ o = 7 ∨ o = 8 ∨ o = 9 ∨ o = 11 ∨ o = 13 ∨ o = 15 ∨ o = 19 ∨ o = 23 ∨ o = 25 ∨ o = 29 ∨ o = 27 ∨ o = 28 ∨ o = 24)
 ·omega
 ·simp only [not_or] at h
  simp only [beq_eq_false_iff_ne]
  right; simp only [ne_eq]; omega
end Rc
theorem grown_alloc2 (w : World) (a b : Obj) : w.grownBy ((w.alloc a).alloc b) none := gtr gal gal
theorem grown_drew {w w' : World} {row : Option Nat} (h : w.grownBy w' row) : w.grownBy w'.drew row := gtr h ⟨rfl, rfl, rfl, Nat.le_refl _, fun _ _ _ => rfl⟩
theorem tail_drew {P : Program} {id : Nat} {Q : Exit → Act → World → Prop} {a : Act} {w : World} {l : List Oper} (n : Nat) (hm : P.follows .mixedOrders = true) (hB : Region.lexTailB .any l.toArray n = true)
  (h : wpStill P l.toArray w.drew (fun a' => wpList P l.toArray Q (l.drop n) a' w.drew) (l.take n) a) : (Code.region id l.toArray true).wp P Q a w := wp_region_still_tail n hm hB h
theorem ga {w w1 : World} (h : w.grownBy w1 none) (o : Obj) : w.grownBy (w1.alloc o) none := gtr h gal
theorem gs {w w1 : World} (h : w.grownBy w1 none) {b : Nat} (i : Nat) (v : Value) (hb : w.heap.size ≤ b) : w.grownBy (w1.setCell ⟨b, i, none⟩ v) none := grown_two h (grown_setCell _ _ _ _) hb
theorem gn {w w1 : World} (h : w.grownBy w1 none) (n : Nat) : w.grownBy (w1.drewN n) none := grown_drewN h n
theorem IsMem.cell {t : TypeId} {w : World} {B D S : Nat} {m : Nat → Int} (h : IsMem t w B D S m) : w.cell? ⟨B, 0, none⟩ = some (.slice (some ⟨D, 0, none⟩) S S) := h.head.cell (i := 0) (by omega)
theorem info_u8 : (Tryz.prog.info? 5).map (fun i => (i.zero, i.size, i.bytes)) = some (some (.int .u8 0), 1, 1) := by kernel_rfl
namespace Mm
theorem by_cases (k : Int) : (Wd.wordB k = false ∧ Wd.by' k = 0) ∨ (Wd.wordB k = true ∧ (Wd.by' k = 1 ∨ Wd.by' k = 2 ∨ Wd.by' k = 4 ∨ Wd.by' k = 8)) := by
  rcases Wd.kinds k with h | h | h | h | h | h | h | h | h | h | h | h
  all_goals first
    | (subst h; right; exact ⟨rfl, by decide⟩)
    | (left; constructor
       · unfold Wd.wordB; simp; omega
       · unfold Wd.by' Wd.wid; rw [if_neg (by omega), if_neg (by omega), if_neg (by omega), if_neg (by omega), if_neg (by omega)]; rfl)
end Mm
theorem IsMem.put {t : TypeId} {w w' : World} {B D S : Nat} {m m' : Nat → Int} (h : IsMem t w B D S m) (hg : w.grownBy w' (some D)) (ht : t ≠ 5) (hr : w'.rowIs D 5 S (fun i => .int .u8 (m' i))) (hf : Mm.Fit m') : IsMem t w' B D S m' := by
 refine ⟨h.head.of_block (hg.block B h.head.lt ?_), hr, hf⟩
 intro e
 injection e with e
 subst e
 obtain ⟨c, hc, _⟩ := h.head
 obtain ⟨d, hd, _⟩ := h.row
 rw [hc] at hd
 injection hd with hd
 injection hd with _ hd
 exact ht hd
theorem IsMem.apart {t : TypeId} {w : World} {B D S : Nat} {m : Nat → Int} (h : IsMem t w B D S m) (ht : t ≠ 5) : B ≠ D := by
 intro e
 subst e
 obtain ⟨c, hc, _⟩ := h.head
 obtain ⟨d, hd, _⟩ := h.row
 rw [hc] at hd
 injection hd with hd
 injection hd with _ hd
 exact ht hd
end Go.Proofs.YtkiockffejlnhaaGreatDoor
