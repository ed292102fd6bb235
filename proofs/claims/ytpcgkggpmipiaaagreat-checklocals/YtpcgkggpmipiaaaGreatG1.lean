/- Contracts and plain facts that the walks share. -/
import Derived.Test.YtpcgkggpmipiaaaGreatRows
import Derived.WalkKit
import Derived.WalkSpells
import Derived.WalkLawsBesides
import Derived.Deep.QuietTactic
import Derived.BigQuiet
import Derived.Deep.OwnRows
import Derived.Below
import Derived.Handy
import Derived.StillTailTactics
import Derived.Deep.RegionWith
import Derived.Laws.AppendOwnNone
import Derived.Deep.Onto
namespace Go.Proofs.YtpcgkggpmipiaaaGreat
namespace Wd
def wid (k : Int) : Int := if k = 1 then 1 else if k = 2 ∨ k = 6 then 8 else if k = 3 ∨ k = 7 then 16 else if k = 4 ∨ k = 8 then 32 else if k = 5 ∨ k = 9 ∨ k = 10 ∨ k = 11 then 64 else 0
def sx (m h x : Int) : Int := ((x + h) % m - h) % 18446744073709551616
def canon (k x : Int) : Int :=
 if k = 1 then x % 2 else if k = 2 then sx 256 128 x else if k = 3 then sx 65536 32768 x else if k = 4 then sx 4294967296 2147483648 x
 else if k = 5 then x % 18446744073709551616 else if k = 6 then x % 256 else if k = 7 then x % 65536 else if k = 8 then x % 4294967296
 else if k = 9 then x % 18446744073709551616 else if k = 10 then x % 18446744073709551616 else if k = 11 then x % 18446744073709551616 else 0
def isB (k x : Int) : Bool := decide (1 ≤ k) && decide (k ≤ 11) && (canon k x == x)
def sgnB (k : Int) : Bool := decide (2 ≤ k) && decide (k ≤ 5)
def intB (k : Int) : Bool := decide (2 ≤ k) && decide (k ≤ 9)
def numB (k : Int) : Bool := decide (2 ≤ k) && decide (k ≤ 10)
def cmpB (op : Int) : Bool := decide (11 ≤ op) && decide (op ≤ 16)
def hasUnB (op k : Int) : Bool := (op == 1 && numB k) || (op == 2 && k == 1) || (op == 3 && intB k)
def hasBinB (op k : Int) : Bool :=
 (intB k && decide (1 ≤ op) && decide (op ≤ 16)) || (k == 10 && ((decide (1 ≤ op) && decide (op ≤ 4)) || cmpB op)) ||
 (k == 1 && (op == 6 || op == 7 || op == 8 || op == 11 || op == 12)) || (k == 11 && (op == 11 || op == 12))
def tr (b : Bool) : Int := if b then 1 else 0
def cmpI (op a b : Int) : Int :=
 if op = 11 then tr (a == b) else if op = 12 then tr (a != b) else if op = 13 then tr (decide (a < b)) else if op = 14 then tr (decide (a ≤ b))
 else if op = 15 then tr (decide (b < a)) else if op = 16 then tr (decide (b ≤ a)) else 0
def sg (x : Int) : Int := (x + 9223372036854775808) % 18446744073709551616 - 9223372036854775808
def bu (op k x y : Int) : Int :=
 if op = 1 then canon k (x + y) else if op = 2 then canon k (x - y) else if op = 3 then canon k (x * y) else if op = 4 then canon k (x / y) else if op = 5 then canon k (x % y)
 else if op = 6 then canon k (x.toNat &&& y.toNat : Nat) else if op = 7 then canon k (x.toNat ||| y.toNat : Nat) else if op = 8 then canon k (x.toNat ^^^ y.toNat : Nat)
 else if op = 9 then canon k (x * 2 ^ min y.toNat 64) else if op = 10 then canon k (x / 2 ^ min y.toNat 64) else cmpI op x y
def bs (op k x y : Int) : Int :=
 if op = 4 then canon k ((sg x).tdiv (sg y)) else if op = 5 then canon k ((sg x).tmod (sg y)) else if op = 10 then (sg x / 2 ^ min y.toNat 64) % 18446744073709551616
 else if 11 ≤ op then cmpI op (sg x) (sg y) else bu op k x y
def shB (op : Int) : Bool := op == 9 || op == 10
theorem kinds (k : Int) : k = 1 ∨ k = 2 ∨ k = 3 ∨ k = 4 ∨ k = 5 ∨ k = 6 ∨ k = 7 ∨ k = 8 ∨ k = 9 ∨ k = 10 ∨ k = 11 ∨ (k < 1 ∨ 11 < k) := by omega
theorem canon_out (k x : Int) (h : k < 1 ∨ 11 < k) : canon k x = 0 := by
 unfold canon
 rw [if_neg (by omega), if_neg (by omega), if_neg (by omega), if_neg (by omega), if_neg (by omega), if_neg (by omega), if_neg (by omega), if_neg (by omega), if_neg (by omega), if_neg (by omega), if_neg (by omega)]
theorem canon1 (x : Int) : canon 1 x = x % 2 := rfl
theorem canon2 (x : Int) : canon 2 x = ((x + 128) % 256 - 128) % 18446744073709551616 := rfl
theorem canon3 (x : Int) : canon 3 x = ((x + 32768) % 65536 - 32768) % 18446744073709551616 := rfl
theorem canon4 (x : Int) : canon 4 x = ((x + 2147483648) % 4294967296 - 2147483648) % 18446744073709551616 := rfl
theorem canon5 (x : Int) : canon 5 x = x % 18446744073709551616 := rfl
theorem canon6 (x : Int) : canon 6 x = x % 256 := rfl
theorem canon7 (x : Int) : canon 7 x = x % 65536 := rfl
theorem canon8 (x : Int) : canon 8 x = x % 4294967296 := rfl
theorem canon9 (x : Int) : canon 9 x = x % 18446744073709551616 := rfl
theorem canon10 (x : Int) : canon 10 x = x % 18446744073709551616 := rfl
theorem canon11 (x : Int) : canon 11 x = x % 18446744073709551616 := rfl
theorem canon_mod (k x : Int) : canon k (x % 18446744073709551616) = canon k x := by
 rcases kinds k with h | h | h | h | h | h | h | h | h | h | h | h <;> first | (subst h; simp only [canon1, canon2, canon3, canon4, canon5, canon6, canon7, canon8, canon9, canon10, canon11]; omega) | simp only [canon_out k _ h]
theorem canon_wrap (k x : Int) : canon k (IntKind.u64.wrap x) = canon k x := by rw [IntKind.wrap_u64, canon_mod]
theorem bu1 (k x y : Int) : bu 1 k x y = canon k (x + y) := rfl
theorem bu2 (k x y : Int) : bu 2 k x y = canon k (x - y) := rfl
theorem bu3 (k x y : Int) : bu 3 k x y = canon k (x * y) := rfl
theorem bu4 (k x y : Int) : bu 4 k x y = canon k (x / y) := rfl
theorem bu5 (k x y : Int) : bu 5 k x y = canon k (x % y) := rfl
theorem bu6 (k x y : Int) : bu 6 k x y = canon k (x.toNat &&& y.toNat : Nat) := rfl
theorem bu7 (k x y : Int) : bu 7 k x y = canon k (x.toNat ||| y.toNat : Nat) := rfl
theorem bu8 (k x y : Int) : bu 8 k x y = canon k (x.toNat ^^^ y.toNat : Nat) := rfl
theorem bu9 (k x y : Int) : bu 9 k x y = canon k (x * 2 ^ min y.toNat 64) := rfl
theorem bu10 (k x y : Int) : bu 10 k x y = canon k (x / 2 ^ min y.toNat 64) := rfl
theorem buc (op k x y : Int) (h : 11 ≤ op) : bu op k x y = cmpI op x y := by
 unfold bu; rw [if_neg (by omega), if_neg (by omega), if_neg (by omega), if_neg (by omega), if_neg (by omega), if_neg (by omega), if_neg (by omega), if_neg (by omega), if_neg (by omega), if_neg (by omega)]
theorem bs4 (k x y : Int) : bs 4 k x y = canon k ((sg x).tdiv (sg y)) := rfl
theorem bs5 (k x y : Int) : bs 5 k x y = canon k ((sg x).tmod (sg y)) := rfl
theorem bs10 (k x y : Int) : bs 10 k x y = (sg x / 2 ^ min y.toNat 64) % 18446744073709551616 := rfl
theorem bsc (op k x y : Int) (h : 11 ≤ op) : bs op k x y = cmpI op (sg x) (sg y) := by
 unfold bs; rw [if_neg (by omega), if_neg (by omega), if_neg (by omega), if_pos h]
theorem bsu (op k x y : Int) (h : op ≤ 10) (h4 : op ≠ 4) (h5 : op ≠ 5) (h10 : op ≠ 10) : bs op k x y = bu op k x y := by
 unfold bs; rw [if_neg h4, if_neg h5, if_neg h10, if_neg (by omega)]
def binI (op k x y : Int) : Int × Int :=
 if hasBinB op k = false then (0, 10) else if isB k x = false ∨ isB (if shB op then 9 else k) y = false then (0, 11)
 else if y = 0 ∧ (op = 4 ∨ op = 5) then (0, 12) else if sgnB k then (bs op k x y, 0) else (bu op k x y, 0)
theorem hasBin_ops {op k : Int} (h : hasBinB op k = true) : 1 ≤ op ∧ op ≤ 16 := by
 simp [hasBinB, intB, cmpB] at h; omega
end Wd
end Go.Proofs.YtpcgkggpmipiaaaGreat
namespace Go.Proofs.YtpcgkggpmipiaaaGreat
set_option maxRecDepth 100000
set_option maxHeartbeats 32000000
open Go.RowKit
theorem ret_i64 {a b : Int} (h : a = b) : Ending.returned (.int .i64 a) = .returned (.int .i64 b) := by rw [h]
theorem ret_u64 {a b : Int} (h : a = b) : Ending.returned (.int .u64 a) = .returned (.int .u64 b) := by rw [h]
theorem ret_bool {a b : Bool} (h : a = b) : Ending.returned (.bool a) = .returned (.bool b) := by rw [h]
theorem width_any (k : Int) (w : World) :
  Calls Tryz.prog 201 #[.int .i64 k] w fun e w' => e = .returned (.int .i64 (Wd.wid k)) ∧ w' = w := by
 go_enter Tryz.func201, Tryz.ntmps201
 go_wp2
 all_goals (go_ret; refine ⟨ret_i64 ?_, rfl⟩; simp only [beq_iff_eq, beq_eq_false_iff_ne] at *; unfold Wd.wid; simp [*])
theorem signed_any (k : Int) (w : World) :
  Calls Tryz.prog 221 #[.int .i64 k] w fun e w' => e = .returned (.bool (Wd.sgnB k)) ∧ w' = w := by
 go_enter Tryz.func221, Tryz.ntmps221
 go_wp2
 all_goals (go_ret; refine ⟨ret_bool ?_, rfl⟩; simp only [beq_iff_eq, beq_eq_false_iff_ne] at *; unfold Wd.sgnB; first | (rw [Bool.eq_iff_iff]; simp; omega))
theorem int_any (k : Int) (w : World) :
  Calls Tryz.prog 225 #[.int .i64 k] w fun e w' => e = .returned (.bool (Wd.intB k)) ∧ w' = w := by
 go_enter Tryz.func225, Tryz.ntmps225
 go_wp2_with (go_at_call 221; refine (signed_any _ _).mono ?_; rintro e w' ⟨rfl, rfl⟩)
 all_goals (go_ret; refine ⟨ret_bool ?_, rfl⟩; simp only [beq_iff_eq, beq_eq_false_iff_ne] at *; simp only [Wd.intB, Wd.sgnB]; first | (rw [Bool.eq_iff_iff]; simp; omega))
theorem number_any (k : Int) (w : World) :
  Calls Tryz.prog 205 #[.int .i64 k] w fun e w' => e = .returned (.bool (Wd.numB k)) ∧ w' = w := by
 go_enter Tryz.func205, Tryz.ntmps205
 go_wp2_with (go_at_call 225; refine (int_any _ _).mono ?_; rintro e w' ⟨rfl, rfl⟩)
 all_goals (go_ret; refine ⟨ret_bool ?_, rfl⟩; simp only [Wd.intB, Wd.numB] at *; first | (rw [Bool.eq_iff_iff]; simp at *; omega))
theorem compares_any (k : Int) (w : World) :
  Calls Tryz.prog 241 #[.int .i64 k] w fun e w' => e = .returned (.bool (Wd.cmpB k)) ∧ w' = w := by
 go_enter Tryz.func241, Tryz.ntmps241
 go_wp2
 all_goals (go_ret; refine ⟨ret_bool ?_, rfl⟩; simp only [Wd.cmpB] at *; first | (rw [Bool.eq_iff_iff]; simp at *; omega))
theorem hasUn_any (op k : Int) (w : World) :
  Calls Tryz.prog 222 #[.int .i64 op, .int .i64 k] w fun e w' => e = .returned (.bool (Wd.hasUnB op k)) ∧ w' = w := by
 go_enter Tryz.func222, Tryz.ntmps222
 go_wp2_with (go_at_call 225; refine (int_any _ _).mono ?_; rintro e w' ⟨rfl, rfl⟩)
 all_goals (go_ret; refine ⟨ret_bool ?_, rfl⟩; simp only [Wd.hasUnB, Wd.intB, Wd.numB] at *; first | (rw [Bool.eq_iff_iff]; simp at *; omega))
theorem hasBin_any (op k : Int) (w : World) :
  Calls Tryz.prog 234 #[.int .i64 op, .int .i64 k] w fun e w' => e = .returned (.bool (Wd.hasBinB op k)) ∧ w' = w := by
 go_enter Tryz.func234, Tryz.ntmps234
 go_wp2_with (first | (go_at_call 225; refine (int_any _ _).mono ?_; rintro e w' ⟨rfl, rfl⟩) | (go_at_call 241; refine (compares_any _ _).mono ?_; rintro e w' ⟨rfl, rfl⟩))
 all_goals (go_ret; refine ⟨ret_bool ?_, rfl⟩; simp only [Wd.hasBinB, Wd.intB, Wd.cmpB] at *; first | (rw [Bool.eq_iff_iff]; simp at *; omega))
theorem canon_any (k x : Int) (w : World) (hx : 0 ≤ x) (hx2 : x < 18446744073709551616) :
    Calls Tryz.prog 202 #[.int .i64 k, .int .u64 x] w fun e w' => e = .returned (.int .u64 (Wd.canon k x)) ∧ w' = w := by
  rcases Wd.kinds k with h | h | h | h | h | h | h | h | h | h | h | (h | h)
  all_goals
    first | subst h | skip
    go_enter Tryz.func202, Tryz.ntmps202
    go_wp2
    go_ret
    refine ⟨ret_u64 ?_, rfl⟩
    first
      | (simp only [Wd.canon1, Wd.canon2, Wd.canon3, Wd.canon4, Wd.canon5, Wd.canon6, Wd.canon7, Wd.canon8, Wd.canon9, Wd.canon10, Wd.canon11, IntKind.wrap_u64, wrap64]; omega)
      | exact (Wd.canon_out k x (by omega)).symm
theorem is_any (k x : Int) (w : World) (hx : 0 ≤ x) (hx2 : x < 18446744073709551616) :
    Calls Tryz.prog 159 #[.int .i64 k, .int .u64 x] w fun e w' => e = .returned (.bool (Wd.isB k x)) ∧ w' = w := by
  by_cases hk : 1 ≤ k ∧ k ≤ 11
  · have hw : 0 < Wd.wid k := by unfold Wd.wid; repeat' split
                                 all_goals omega
    have hi : Wd.isB k x = (Wd.canon k x == x) := by simp [Wd.isB, hk]
    have Hi : Hid (_ = _) := hi
    clear hi hk
    go_enter Tryz.func159, Tryz.ntmps159
    go_wp2_with (first | (go_at_call 201; refine (width_any _ _).mono ?_; rintro e w' ⟨rfl, rfl⟩) | (go_at_call 202; refine (canon_any _ _ _ (by assumption) (by assumption)).mono ?_; rintro e w' ⟨rfl, rfl⟩))
    go_ret
    exact ⟨ret_bool Hi.out.symm, rfl⟩
  · have hw : ¬ 0 < Wd.wid k := by unfold Wd.wid; repeat' split
                                   all_goals omega
    have hi : Wd.isB k x = false := by unfold Wd.isB; rw [Bool.and_eq_false_iff]; left; simp; omega
    have Hi : Hid (_ = _) := hi
    clear hi hk
    go_enter Tryz.func159, Tryz.ntmps159
    go_wp2_with (first | (go_at_call 201; refine (width_any _ _).mono ?_; rintro e w' ⟨rfl, rfl⟩) | (go_at_call 202; refine (canon_any _ _ _ (by assumption) (by assumption)).mono ?_; rintro e w' ⟨rfl, rfl⟩))
    go_ret
    exact ⟨ret_bool Hi.out.symm, rfl⟩
end Go.Proofs.YtpcgkggpmipiaaaGreat
namespace Go.Proofs.YtpcgkggpmipiaaaGreat
set_option maxRecDepth 100000
set_option maxHeartbeats 32000000
open Go.RowKit
set_option linter.unusedVariables false
namespace Wd
def by' (k : Int) : Int := (wid k + 7) / 8
end Wd
namespace Wd
def wordB (k : Int) : Bool := decide (1 ≤ k) && decide (k ≤ 11)
end Wd
theorem bytes_any (k : Int) (w : World) :
    Calls Tryz.prog 232 #[.int .i64 k] w fun e w' => e = .returned (.int .i64 (Wd.by' k)) ∧ w' = w := by
  have h1 : 0 ≤ Wd.wid k := by unfold Wd.wid; repeat' split
                               all_goals omega
  have h2 : Wd.wid k ≤ 64 := by unfold Wd.wid; repeat' split
                                all_goals omega
  go_enter Tryz.func232, Tryz.ntmps232
  go_wp2_with (go_at_call 201; refine (width_any _ _).mono ?_; rintro e w' ⟨rfl, rfl⟩)
  go_ret
  exact ⟨rfl, rfl⟩
end Go.Proofs.YtpcgkggpmipiaaaGreat
namespace Go.Proofs.YtpcgkggpmipiaaaGreat
open Go.RowKit
set_option linter.unusedVariables false
namespace Mm
def ld (m : Nat → Int) (a : Nat) : Nat → Int
 | 0 => 0
 | n + 1 => ld m a n + m (a + n) * 256 ^ n
def by8 (x : Int) (i : Nat) : Int := x / 256 ^ i % 256
theorem mod_mul (x a b : Int) (ha : 0 < a) (hb : 0 < b) : x % (a * b) = x % a + a * (x / a % b) := by
 have h1 := Int.mul_ediv_add_emod x a
 have h2 := Int.mul_ediv_add_emod (x / a) b
 have h3 := Int.emod_nonneg x (show a ≠ 0 by omega)
 have h4 := Int.emod_lt_of_pos x ha
 have h5 := Int.emod_nonneg (x / a) (show b ≠ 0 by omega)
 have h6 := Int.emod_lt_of_pos (x / a) hb
 have e : x = (x % a + a * (x / a % b)) + a * b * (x / a / b) := by
  have : a * (x / a) = a * (b * (x / a / b)) + a * (x / a % b) := by rw [← Int.mul_add, h2]
  rw [Int.mul_assoc]; omega
 have k1 : 0 ≤ a * (x / a % b) := Int.mul_nonneg (by omega) h5
 have k2 : a * (x / a % b) ≤ a * (b - 1) := Int.mul_le_mul_of_nonneg_left (by omega) (by omega)
 rw [Int.mul_sub, Int.mul_one] at k2
 have k3 : (x % a + a * (x / a % b) + a * b * (x / a / b)) % (a * b) = x % a + a * (x / a % b) := by
  rw [Int.add_mul_emod_self_left]
  exact Int.emod_eq_of_lt (by omega) (by omega)
 rw [← e] at k3
 exact k3
theorem pow_pos (n : Nat) : (0 : Int) < 256 ^ n := Int.pow_pos (by omega)
theorem ld_succ (m : Nat → Int) (a n : Nat) : ld m a (n + 1) = ld m a n + m (a + n) * 256 ^ n := rfl
theorem ld_congr {m m' : Nat → Int} {a a' n : Nat} (h : ∀ i, i < n → m (a + i) = m' (a' + i)) : ld m a n = ld m' a' n := by
 induction n with
 | zero => rfl
 | succ n ih => rw [ld_succ, ld_succ, ih (fun i hi => h i (by omega)), h n (by omega)]
theorem ld_by8 (x : Int) (n : Nat) : ld (by8 x) 0 n = x % 256 ^ n := by
 induction n with
 | zero => simp [ld, Int.emod_one]
 | succ n ih =>
  rw [ld_succ, ih, Nat.zero_add, Int.pow_succ, mod_mul _ _ _ (pow_pos n) (by omega)]
  unfold by8
  rw [Int.mul_comm]
end Mm
namespace Mm
end Mm
def Bs (w : World) (ao : Option Addr) (n : Nat) (g : Nat → Int) : Prop :=
 n = 0 ∨ ∃ b off, ao = some ⟨b, off, none⟩ ∧ ∀ i, i < n → w.cell? ⟨b, off + i, none⟩ = some (.int .u8 (g i))
theorem grown_trans {w w' w'' : World} {row : Option Nat} (h : w.grownBy w' row) (k : w'.grownBy w'' row) : w.grownBy w'' row :=
 ⟨k.os.trans h.os, k.tape.trans h.tape, k.output.trans h.output, Nat.le_trans h.size k.size, fun i hi hr => (k.block i (Nat.lt_of_lt_of_le hi h.size) hr).trans (h.block i hi hr)⟩
theorem gtr {w w' w'' : World} {row : Option Nat} (h : w.grownBy w' row) (k : w'.grownBy w'' row) : w.grownBy w'' row := grown_trans h k
theorem gal {w : World} {o : Obj} {row : Option Nat} : w.grownBy (w.alloc o) row := World.grownBy_alloc _ _ _
theorem gr0 {w : World} {row : Option Nat} : w.grownBy w row := World.grownBy.refl _ _
theorem grown_setCell (w : World) (b i : Nat) (v : Value) : w.grownBy (w.setCell ⟨b, i, none⟩ v) (some b) :=
 ⟨rfl, rfl, rfl, by simp [World.setCell], fun k hk hr => Below.heap_setCell _ _ _ _ (fun e => hr (by rw [e]))⟩
theorem grown_drewN {w w' : World} {row : Option Nat} (h : w.grownBy w' row) (n : Nat) : w.grownBy (w'.drewN n) row := by
 refine grown_trans h ?_
 induction n with
 | zero => exact ⟨rfl, rfl, rfl, Nat.le_refl _, fun _ _ _ => rfl⟩
 | succ n ih => exact grown_trans ih ⟨rfl, rfl, rfl, Nat.le_refl _, fun _ _ _ => rfl⟩
theorem grown_two {w w1 w2 : World} {b : Nat} (hg1 : w.grownBy w1 none) (hg2 : w1.grownBy w2 (some b)) (hb : w.heap.size ≤ b) : w.grownBy w2 none := by
 refine ⟨hg2.os.trans hg1.os, hg2.tape.trans hg1.tape, hg2.output.trans hg1.output, Nat.le_trans hg1.size hg2.size, fun k hk _ => ?_⟩
 have hne : some k ≠ some b := by intro e; injection e with e; omega
 exact (hg2.block k (Nat.lt_of_lt_of_le hk hg1.size) hne).trans (hg1.block k hk (by simp))
theorem grown_noneR {w w1 : World} (row : Option Nat) (h : w.grownBy w1 none) : w.grownBy w1 row := ⟨h.os, h.tape, h.output, h.size, fun k hk _ => h.block k hk (by simp)⟩
end Go.Proofs.YtpcgkggpmipiaaaGreat
namespace Go.Proofs.YtpcgkggpmipiaaaGreat
set_option linter.unusedVariables false
structure InV where
 op : Int
 a : Int
 b : Int
 c : Int
 k : Int
 sub : Int
 scale : Int
 imm : Int
 label : Int
namespace Rc
def fld (op : Int) : ByteArray :=
 if op = 1 ∨ op = 2 ∨ op = 20 ∨ op = 21 then ⟨#[65, 73]⟩ else if op = 3 ∨ op = 26 then ⟨#[65, 66]⟩ else if op = 4 then ⟨#[65, 66, 67, 75, 83]⟩
 else if op = 7 ∨ op = 8 then ⟨#[65, 66, 75, 83]⟩ else if op = 9 then ⟨#[65, 66, 73]⟩ else if op = 11 ∨ op = 13 then ⟨#[65, 66, 75, 73]⟩
 else if op = 15 then ⟨#[65, 66, 67, 73]⟩ else if op = 19 ∨ op = 23 ∨ op = 25 ∨ op = 29 then ⟨#[73]⟩ else if op = 27 ∨ op = 28 then ⟨#[65]⟩ else if op = 24 then ⟨#[45]⟩ else ⟨#[]⟩
def hasS (s : ByteArray) (c : Int) : Bool := s.data.toList.any (fun b => (b.toNat : Int) == c)
def regB (n : Int) : Bool := decide (0 ≤ n) && decide (n < 16)
def smallB (n : Int) : Bool := decide (-2147483648 ≤ n) && decide (n < 2147483648)
def kindB (v : InV) : Bool :=
 if v.op = 4 then Wd.hasBinB v.sub v.k else if v.op = 7 then Wd.hasUnB v.sub v.k else if v.op = 8 then Wd.numB v.sub && Wd.numB v.k else if v.op = 11 ∨ v.op = 13 then Wd.wordB v.k
 else if v.op = 15 then decide (0 ≤ v.imm) && decide (v.imm < 16) else if v.op = 25 then decide (0 ≤ v.imm) else if v.op = 29 then decide (0 < v.imm) else true
def mayB (v : InV) : Bool :=
 !(fld v.op).data.isEmpty && v.scale == 0 && v.label == 0 && regB v.a && regB v.b && regB v.c && smallB v.imm &&
 (hasS (fld v.op) 65 || v.a == 0) && (hasS (fld v.op) 66 || v.b == 0) && (hasS (fld v.op) 67 || v.c == 0) && (hasS (fld v.op) 75 || v.k == 0) && (hasS (fld v.op) 83 || v.sub == 0) && (hasS (fld v.op) 73 || v.imm == 0) && kindB v
def cc (v : InV) : Int := if v.op = 11 ∨ v.op = 13 then v.k else v.c
def nn (v : InV) : Int := if v.op = 4 ∨ v.op = 7 ∨ v.op = 8 then v.k + 256 * v.sub else v.imm
def enc (v : InV) (i : Nat) : Int :=
 if i = 0 then v.op % 256 else if i = 1 then v.a % 256 else if i = 2 then v.b % 256 else if i = 3 then cc v % 256 else Mm.by8 (nn v % 4294967296) (i - 4)
def s32 (u : Int) : Int := (u + 2147483648) % 4294967296 - 2147483648
def rd (g : Nat → Int) : InV :=
 let n := s32 (Mm.ld g 4 4)
 if g 0 = 4 ∨ g 0 = 7 ∨ g 0 = 8 then ⟨g 0, g 1, g 2, g 3, n % 256, n / 256, 0, 0, 0⟩
 else if g 0 = 11 ∨ g 0 = 13 then ⟨g 0, g 1, g 2, 0, g 3, 0, 0, n, 0⟩ else ⟨g 0, g 1, g 2, g 3, 0, 0, 0, n, 0⟩
def wideB (g : Nat → Int) : Bool := (g 0 == 4 || g 0 == 7 || g 0 == 8) && (decide (s32 (Mm.ld g 4 4) < 0) || decide (65536 ≤ s32 (Mm.ld g 4 4)))
theorem codes (v : InV) (h : mayB v = true) : v.op = 1 ∨ v.op = 2 ∨ v.op = 3 ∨ v.op = 4 ∨ v.op = 7 ∨ v.op = 8 ∨ v.op = 9 ∨ v.op = 11 ∨ v.op = 13 ∨ v.op = 15 ∨ v.op = 19 ∨ v.op = 20 ∨ v.op = 21 ∨ v.op = 23 ∨ v.op = 24 ∨ v.op = 25 ∨ v.op = 26 ∨ v.op = 27 ∨ v.op = 28 ∨ v.op = 29 := by
 by_cases hh : (v.op = 1 ∨ v.op = 2 ∨ v.op = 3 ∨ v.op = 4 ∨ v.op = 7 ∨ v.op = 8 ∨ v.op = 9 ∨ v.op = 11 ∨ v.op = 13 ∨ v.op = 15 ∨ v.op = 19 ∨ v.op = 20 ∨ v.op = 21 ∨ v.op = 23 ∨ v.op = 24 ∨ v.op = 25 ∨ v.op = 26 ∨ v.op = 27 ∨ v.op = 28 ∨ v.op = 29)
 ·exact hh
 ·exfalso
  have e : fld v.op = ⟨#[]⟩ := by
   unfold fld
   rw [if_neg (by omega), if_neg (by omega), if_neg (by omega), if_neg (by omega), if_neg (by omega), if_neg (by omega), if_neg (by omega), if_neg (by omega), if_neg (by omega), if_neg (by omega)]
  unfold mayB at h
  rw [e] at h
  simp at h
theorem ld_enc (v : InV) : Mm.ld (enc v) 4 4 = nn v % 4294967296 := by
 have h : Mm.ld (enc v) 4 4 = Mm.ld (Mm.by8 (nn v % 4294967296)) 0 4 := Mm.ld_congr fun i hi => by
  unfold enc
  rw [if_neg (by omega), if_neg (by omega), if_neg (by omega), if_neg (by omega)]
  congr 1; omega
 rw [h, Mm.ld_by8]
 omega
theorem s32_mod (n : Int) (h1 : -2147483648 ≤ n) (h2 : n < 2147483648) : s32 (n % 4294967296) = n := by unfold s32; omega
structure Rng (v : InV) : Prop where
 sc : v.scale = 0
 lb : v.label = 0
 a1 : 0 ≤ v.a
 a2 : v.a < 16
 b1 : 0 ≤ v.b
 b2 : v.b < 16
 c1 : 0 ≤ v.c
 c2 : v.c < 16
 i1 : -2147483648 ≤ v.imm
 i2 : v.imm < 2147483648
 u0 : hasS (fld v.op) 65 = true ∨ v.a = 0
 u1 : hasS (fld v.op) 66 = true ∨ v.b = 0
 u2 : hasS (fld v.op) 67 = true ∨ v.c = 0
 u3 : hasS (fld v.op) 75 = true ∨ v.k = 0
 u4 : hasS (fld v.op) 83 = true ∨ v.sub = 0
 u5 : hasS (fld v.op) 73 = true ∨ v.imm = 0
 kd : kindB v = true
theorem rng {v : InV} (h : mayB v = true) : Rng v := by
 unfold mayB regB smallB at h
 simp only [Bool.and_eq_true, Bool.or_eq_true, beq_iff_eq, decide_eq_true_eq] at h
 obtain ⟨⟨⟨⟨⟨⟨⟨⟨⟨⟨⟨⟨⟨h0, h1⟩, h2⟩, h3⟩, h4⟩, h5⟩, h6⟩, h7⟩, h8⟩, h9⟩, h10⟩, h11⟩, h12⟩, h13⟩ := h
 exact ⟨h1, h2, h3.1, h3.2, h4.1, h4.2, h5.1, h5.2, h6.1, h6.2, h7, h8, h9, h10, h11, h12, h13⟩
theorem bin_rng {op k : Int} (h : Wd.hasBinB op k = true) : 1 ≤ op ∧ op ≤ 16 ∧ 1 ≤ k ∧ k ≤ 11 := by
 unfold Wd.hasBinB Wd.intB Wd.cmpB at h; simp at h; omega
theorem un_rng {op k : Int} (h : Wd.hasUnB op k = true) : 1 ≤ op ∧ op ≤ 3 ∧ 1 ≤ k ∧ k ≤ 11 := by
 unfold Wd.hasUnB Wd.numB Wd.intB at h; simp at h; omega
theorem conv_rng {f t : Int} (h : (Wd.numB f && Wd.numB t) = true) : 2 ≤ f ∧ f ≤ 10 ∧ 2 ≤ t ∧ t ≤ 10 := by
 unfold Wd.numB at h; simp at h; omega
theorem word_rng {k : Int} (h : Wd.wordB k = true) : 1 ≤ k ∧ k ≤ 11 := by unfold Wd.wordB at h; simpa using h
theorem back (v : InV) (h : mayB v = true) : rd (enc v) = v ∧ wideB (enc v) = false := by
 have r := rng h
 have hc := codes v h
 have e0 : enc v 0 = v.op := by show v.op % 256 = _; omega
 have e1 : enc v 1 = v.a := by show v.a % 256 = _; have := r.a1; have := r.a2; omega
 have e2 : enc v 2 = v.b := by show v.b % 256 = _; have := r.b1; have := r.b2; omega
 have e3 : enc v 3 = cc v % 256 := rfl
 obtain ⟨op, a, b, c, k, sub, sc, imm, lb⟩ := v
 obtain ⟨h1, h2, a1, a2, b1, b2, c1, c2, i1, i2, u0, u1, u2, u3, u4, u5, kd⟩ := r
 dsimp only at *
 subst h1 h2
 rcases hc with rfl | rfl | rfl | rfl | rfl | rfl | rfl | rfl | rfl | rfl | rfl | rfl | rfl | rfl | rfl | rfl | rfl | rfl | rfl | rfl
 all_goals try (replace u0 := u0.resolve_left (by decide))
 all_goals try (replace u1 := u1.resolve_left (by decide))
 all_goals try (replace u2 := u2.resolve_left (by decide))
 all_goals try (replace u3 := u3.resolve_left (by decide))
 all_goals try (replace u4 := u4.resolve_left (by decide))
 all_goals try (replace u5 := u5.resolve_left (by decide))
 all_goals try (replace kd := bin_rng (show Wd.hasBinB sub k = true from kd))
 all_goals try (replace kd := un_rng (show Wd.hasUnB sub k = true from kd))
 all_goals try (replace kd := conv_rng (show (Wd.numB sub && Wd.numB k) = true from kd))
 all_goals try (replace kd := word_rng (show Wd.wordB k = true from kd))
 all_goals
  unfold rd wideB
  rw [e0, e1, e2, e3, ld_enc]
  simp only [nn, cc, Int.reduceEq, or_self, or_false, or_true, if_true, if_false]
  rw [s32_mod _ (by omega) (by omega)]
  refine ⟨?_, ?_⟩
  ·simp only [InV.mk.injEq, true_and, and_true]; omega
  ·first | rfl | (simp; done) | (simp; omega)
end Rc
end Go.Proofs.YtpcgkggpmipiaaaGreat
namespace Go.Proofs.YtpcgkggpmipiaaaGreat
open Go.RowKit
set_option linter.unusedVariables false
namespace Mm
end Mm
namespace Rc
end Rc
namespace Rc
end Rc
namespace Rc
end Rc
theorem grown_drew {w w' : World} {row : Option Nat} (h : w.grownBy w' row) : w.grownBy w'.drew row := gtr h ⟨rfl, rfl, rfl, Nat.le_refl _, fun _ _ _ => rfl⟩
theorem tail_drew {P : Program} {id : Nat} {Q : Exit → Act → World → Prop} {a : Act} {w : World} {l : List Oper} (n : Nat) (hm : P.follows .mixedOrders = true) (hB : Region.lexTailB .any l.toArray n = true)
  (h : wpStill P l.toArray w.drew (fun a' => wpList P l.toArray Q (l.drop n) a' w.drew) (l.take n) a) : (Code.region id l.toArray true).wp P Q a w := wp_region_still_tail n hm hB h
theorem ga {w w1 : World} (h : w.grownBy w1 none) (o : Obj) : w.grownBy (w1.alloc o) none := gtr h gal
theorem gs {w w1 : World} (h : w.grownBy w1 none) {b : Nat} (i : Nat) (v : Value) (hb : w.heap.size ≤ b) : w.grownBy (w1.setCell ⟨b, i, none⟩ v) none := grown_two h (grown_setCell _ _ _ _) hb
theorem still_of_quiet {P : Program} {ops : Array Oper} {w : World} {Q : Act → Prop} : ∀ (l : List Oper) (a : Act), wpQuiet P ops (fun w' => w' = w) Q l a → wpStill P ops w Q l a
 | [], _, h => h
 | o :: rest, a, h => by
  unfold wpQuiet at h
  unfold wpStill
  split
  ·rename_i hw
   rw [if_pos hw] at h
   obtain ⟨v, h1, h2⟩ := h
   have h3 := h1 w rfl
   have h4 := still_of_quiet rest _ h2
   unfold Oper.quietAt at h3
   unfold Oper.still
   generalize (execOp a.eval o).run P w = r at h3
   match r, h3 with
   | .ok (.value u) w', h3 => obtain ⟨e1, e2⟩ := h3; exact ⟨e1, by rw [e2]; exact h4⟩
   | .ok .skip w', h3 => obtain ⟨e1, e2⟩ := h3; exact ⟨e1, by rw [← e2]; exact h4⟩
   | .ok (.enter f args) w', h3 => obtain ⟨e1, e2⟩ := h3; exact ⟨e1, v, e2, h4⟩
  ·rename_i hw
   rw [if_neg hw] at h
   exact still_of_quiet rest _ h
theorem tail_quiet {P : Program} {id : Nat} {Q : Exit → Act → World → Prop} {a : Act} {w : World} {l : List Oper} (n : Nat) (hm : P.follows .mixedOrders = true) (hB : Region.lexTailB .any l.toArray n = true)
  (h : wpQuiet P l.toArray (fun w' => w' = w.drew) (fun a' => wpList P l.toArray Q (l.drop n) a' w.drew) (l.take n) a) : (Code.region id l.toArray true).wp P Q a w :=
 tail_drew n hm hB (still_of_quiet _ _ h)
section
variable {P : Program} {ops : Array Oper} {md : Region.Mode} {C : World → Prop}
def headQ (P : Program) (md : Region.Mode) (ops : Array Oper) (C : World → Prop) (n : Nat) (L : Array Bool → Act → Prop) : Nat → Array Bool → Act → Prop
 | 0, listed, a => L listed a
 | f + 1, listed, a => Region.ready md ops listed ≠ [] ∧ ∀ i ∈ Region.ready md ops listed, i < n ∧ qOp P ops C i (headQ P md ops C n L f (listed.setIfInBounds i true)) a
theorem any_of_headQ {n g : Nat} {L : Array Bool → Act → Prop} {Q' : Exit → Act → World → Prop} (hL : ∀ listed a w, C w → L listed a → wpAny P md ops Q' g listed a w) (f : Nat) :
  ∀ (listed : Array Bool) (a : Act) (w : World), C w → headQ P md ops C n L f listed a → wpAny P md ops Q' (f + g) listed a w := by
 induction f with
 | zero => intro listed a w hw h; rw [Nat.zero_add]; exact hL _ _ _ hw h
 | succ f ih =>
  intro listed a w hw h
  rw [Nat.add_right_comm]
  exact ⟨fun h0 => absurd h0 h.1, fun i hi => wpOp_of_qOp hw (fun a' w' hw' h' => ih _ a' w' hw' h') (h.2 i hi).2⟩
theorem headQ_take {n i : Nat} {oi : Oper} {v : Value} {L : Array Bool → Act → Prop} (hi : ops[i]? = some oi) (hsel : ∀ (j : Nat) (o : Oper) cs b, ops[j]? = some o → o.op ≠ .select cs b)
  (hs : Region.sinkB md ops n = true) (hc : Region.chainB md ops n = true) (hn : n < ops.size) (hin : i < n) (hdone : ∀ listed a, L listed a → ∀ j ∈ Region.ready md ops listed, n ≤ j) (f : Nat) :
  ∀ (listed : Array Bool) (a : Act), HeadInv md ops n listed →
   (∀ j oj, ops[j]? = some oj → j ≠ i → listed.getD j true = false → (∀ e ∈ oj.after, Region.binds md e = true → e.on ≠ i) → oi.apart ops oj = true) →
   i ∈ Region.ready md ops listed → YieldsIn P ops C oi v a →
   headQ P md ops C n L f (listed.setIfInBounds i true) (a.put oi.dst v) → headQ P md ops C n L (f + 1) listed a := by
 induction f with
 | zero =>
  intro listed a inv hfree hr hy H
  refine ⟨List.ne_nil_of_mem hr, fun j hj => ?_⟩
  have hjn : j < n := Nat.lt_of_not_le fun h => tail_waits hs hc hn inv _ i rfl hin (mem_ready.1 hr).1 j h hj
  by_cases hji : j = i
  ·subst hji; exact ⟨hjn, hy.qOp hi H⟩
  ·exact absurd (hdone _ _ H j (ready_mono hj hji)) (by omega)
 | succ f ih =>
  intro listed a inv hfree hr hy H
  refine ⟨List.ne_nil_of_mem hr, fun j hj => ?_⟩
  have hun := (mem_ready.1 hr).1
  have hjn : j < n := Nat.lt_of_not_le fun h => tail_waits hs hc hn inv _ i rfl hin hun j h hj
  refine ⟨hjn, ?_⟩
  by_cases hji : j = i
  ·subst hji; exact hy.qOp hi H
  ·obtain ⟨hjun, oj, hoj, hall⟩ := mem_ready.1 hj
   have hnot : ∀ e ∈ oj.after, Region.binds md e = true → e.on ≠ i := fun e he hb heq => by
    have h1 := hall e he hb
    rw [heq, getD_both hun] at h1
    cases h1
   have h2 := qOp_put hoj (hfree j oj hoj hji hjun hnot) (fun cs b => hsel i oi cs b hi) (fun cs b => hsel j oj cs b hoj) hy (H.2 j (ready_mono hj hji)).2
   refine qOp_mono (fun a' h3 => ih (listed.setIfInBounds j true) a' (inv.set hj hjn) (fun k ok hk hki hun' hno => ?_) (ready_mono hr (Ne.symm hji)) h3.1 ?_) h2
   ·refine hfree k ok hk hki ?_ hno
    by_cases hjk : j = k
    ·subst hjk; exact hjun
    ·rw [getD_set_ne true hjk] at hun'; exact hun'
   ·rw [Array.setIfInBounds_comm _ _ hji]
    exact h3.2
theorem headQ_lex {n g : Nat} {Lq : Act → Prop} (hsel : Region.noSelect ops = true) (hs : Region.sinkB md ops n = true) (hc : Region.chainB md ops n = true) (hn : n < ops.size) :
  ∀ (l : List Oper) (k : Nat) (listed : Array Bool) (a : Act), (∀ j, j < l.length → l[j]? = ops[k + j]?) → k + l.length = n → HeadInv md ops n listed →
  Region.lexHead md ops g l.length k listed = true → wpQuiet P ops C Lq l a →
  headQ P md ops C n (fun listed' a' => Region.seqB md ops g n listed' = true ∧ Lq a') l.length listed a := by
 intro l
 induction l with
 | nil =>
  intro k listed a _ hk _ hB h
  obtain rfl : k = n := by simpa using hk
  exact ⟨by simpa [Region.lexHead] using hB, h⟩
 | cons o l ih =>
  intro k listed a hl hk inv hB h
  have h0 : ops[k]? = some o := by simpa using (hl 0 (by simp)).symm
  simp only [List.length_cons, Region.lexHead, Bool.and_eq_true] at hB
  obtain ⟨⟨hr, hf⟩, hB'⟩ := hB
  simp only [List.length_cons] at hk
  have hr' : k ∈ Region.ready md ops listed := by simpa using hr
  obtain ⟨v, hy, hK⟩ := yieldsIn_of_qOp (K := wpQuiet P ops C Lq l) (C := C) h0 (by unfold qOp; simp only [h0]; exact h)
  refine headQ_take h0 (Region.noSelect_spec hsel) hs hc hn (by omega) (fun listed' a' hL => seqB_ready hL.1) l.length listed a inv (Region.free_spec h0 hf) hr' hy ?_
  exact ih (k + 1) _ _ (fun j hj => by have := hl (j + 1) (by simp; omega); simpa [Nat.add_assoc, Nat.add_comm 1 j] using this) (by omega) (inv.set hr' (by omega)) hB' hK
theorem tail_class {id : Nat} {Q : Exit → Act → World → Prop} {a : Act} {w : World} {l : List Oper} (C : World → Prop) (n : Nat) (hm : P.follows .mixedOrders = true) (hB : Region.lexTailB .any l.toArray n = true) (hC : C w.drew)
  (h : wpQuiet P l.toArray C (fun a' => ∀ w', C w' → wpList P l.toArray Q (l.drop n) a' w') (l.take n) a) : (Code.region id l.toArray true).wp P Q a w := by
 simp only [Region.lexTailB, Bool.and_eq_true, decide_eq_true_eq] at hB
 obtain ⟨⟨⟨⟨hsel, hn⟩, hs⟩, hc⟩, hlex⟩ := hB
 have hn' : n < l.length := by simpa using hn
 have htl : (l.take n).length = n := by simp; omega
 have hdl : (l.drop n).length = l.toArray.size - n := by simp
 have inv0 : HeadInv .any l.toArray n (Array.replicate l.toArray.size false) :=
  ⟨by simp, fun j oj _ hl => (by rw [getD_replicate_false] at hl; cases hl), fun t _ ht => getD_in (by simpa using ht) (getD_replicate_false _ _)⟩
 have H := headQ_lex (md := .any) (g := l.toArray.size - n) hsel hs hc hn (l.take n) 0 _ a (fun j hj => by
  have hj' : j < n := by rw [htl] at hj; exact hj
  simp [hj']) (by simpa using htl) inv0 (by rw [htl]; exact hlex) h
 refine wp_region_any hm ?_
 have T := any_of_headQ (Q' := Q) (g := l.toArray.size - n) (fun listed a' w' hw' hL => by
  have := wpAny_of_seq (md := .any) (Q' := Q) (l.drop n) n listed a' w' (fun j => by simp [List.getElem?_drop]) (by rw [hdl]; exact hL.1) (hL.2 w' hw')
  rwa [hdl] at this) _ _ _ _ hC H
 rw [htl, show n + (l.toArray.size - n) = l.toArray.size by omega] at T
 exact T
theorem put_defers (a : Act) (d : Option Tmp) (v : Value) : (a.put d v).defers = a.defers := by cases d <;> rfl
end
structure Ch (w w' : World) (l : List Nat) : Prop where
 os : w'.os = w.os
 tape : w'.tape = w.tape
 output : w'.output = w.output
 size : w.heap.size ≤ w'.heap.size
 block : ∀ k, k < w.heap.size → k ∉ l → w'.heap[k]? = w.heap[k]?
theorem Ch.refl (w : World) (l : List Nat) : Ch w w l := ⟨rfl, rfl, rfl, Nat.le_refl _, fun _ _ _ => rfl⟩
theorem Ch.trans {w w1 w2 : World} {l : List Nat} (h1 : Ch w w1 l) (h2 : Ch w1 w2 l) : Ch w w2 l :=
 ⟨h2.os.trans h1.os, h2.tape.trans h1.tape, h2.output.trans h1.output, Nat.le_trans h1.size h2.size, fun k hk hl => (h2.block k (Nat.lt_of_lt_of_le hk h1.size) hl).trans (h1.block k hk hl)⟩
theorem Ch.of {w w' : World} {l : List Nat} (h : w.grownBy w' none) : Ch w w' l := ⟨h.os, h.tape, h.output, h.size, fun k hk _ => h.block k hk (by simp)⟩
theorem Ch.one {w w' : World} {b : Nat} {l : List Nat} (h : w.grownBy w' (some b)) (hb : b ∈ l) : Ch w w' l := ⟨h.os, h.tape, h.output, h.size, fun k hk hl => h.block k hk (by intro e; injection e with e; subst e; exact hl hb)⟩
theorem Ch.mono {w w' : World} {l l' : List Nat} (h : Ch w w' l) (hl : ∀ k, k < w.heap.size → k ∈ l → k ∈ l') : Ch w w' l' := ⟨h.os, h.tape, h.output, h.size, fun k hk hn => h.block k hk (fun hm => hn (hl k hk hm))⟩
theorem Ch.nil {w w' : World} {l : List Nat} (h : Ch w w' l) (hl : ∀ k, k ∈ l → w.heap.size ≤ k) : w.grownBy w' none := ⟨h.os, h.tape, h.output, h.size, fun k hk _ => h.block k hk (fun hm => by have := hl k hm; omega)⟩
theorem Ch.new {w w1 w2 : World} {l : List Nat} (h1 : Ch w w1 l) {b : Nat} (hb : w.heap.size ≤ b) (h2 : w1.grownBy w2 (some b)) : Ch w w2 l :=
 ⟨h2.os.trans h1.os, h2.tape.trans h1.tape, h2.output.trans h1.output, Nat.le_trans h1.size h2.size, fun k hk hl => (h2.block k (Nat.lt_of_lt_of_le hk h1.size) (by intro e; injection e with e; omega)).trans (h1.block k hk hl)⟩
theorem Ch.cell {w w' : World} {l : List Nat} (h : Ch w w' l) {b o : Nat} {v : Value} (hc : w.cell? ⟨b, o, none⟩ = some v) (hb : b ∉ l) : w'.cell? ⟨b, o, none⟩ = some v := by
 have hlt := World.block_lt_of_cell? _ _ hc
 rw [← hc]
 exact World.cell?_of_block (h.block b hlt hb)
structure NumIn (N : Nat) (w : World) (a : Option Addr) (n c : Nat) (M : Nat → Int) : Prop where
 le : n ≤ c
 max : c ≤ maxLen
 lie : n = 0 ∨ ∃ b off, a = some ⟨b, off, none⟩ ∧ b < N ∧ ∀ i, i < n → w.cell? ⟨b, off + i, none⟩ = some (.int .i64 (M i))
theorem NumIn.ch {N : Nat} {w w' : World} {a : Option Addr} {n c : Nat} {M : Nat → Int} {l : List Nat} (h : NumIn N w a n c M) (hg : Ch w w' l) (hl : ∀ k, k ∈ l → N ≤ k) : NumIn N w' a n c M :=
 ⟨h.le, h.max, by
  rcases h.lie with h0 | ⟨b, off, e, hb, hi⟩
  ·exact .inl h0
  ·exact .inr ⟨b, off, e, hb, fun i hi' => hg.cell (hi i hi') (fun hm => by have := hl b hm; omega)⟩⟩
def OwnN (w : World) (base : Nat) (v : Value) (n : Nat) (g : Nat → Int) : Prop := w.ownsRow base 3 1 v n ((List.range n).map fun i => Value.int .i64 (g i))
def OwnZ (w : World) (base : Nat) (v : Value) (l : List Int) : Prop := w.ownsRow base 3 1 v l.length (l.map (Value.int .i64))
theorem OwnZ.n {w : World} {base : Nat} {v : Value} {l : List Int} (h : OwnZ w base v l) : OwnN w base v l.length (fun i => l.getD i 0) := by
 unfold OwnN
 have e : (List.range l.length).map (fun i => Value.int .i64 (l.getD i 0)) = l.map (Value.int .i64) := by
  refine List.ext_getElem (by simp) fun i h1 h2 => ?_
  simp at h1
  simp [List.getD_eq_getElem?_getD, List.getElem?_eq_getElem h1]
 rw [e]
 exact h
theorem OwnZ.low {w : World} {base base' : Nat} {v : Value} {l : List Int} (h : OwnZ w base v l) (hb : base' ≤ base) : OwnZ w base' v l := World.ownsRow.mono h hb
theorem ownsRow_ch {w w' : World} {l : List Nat} {base : Nat} {e : TypeId} {size n : Nat} {v : Value} {xs : List Value} (h : w.ownsRow base e size v n xs) (hg : Ch w w' l) (hne : ∀ k, v.ownBlock = some k → k ∉ l) : w'.ownsRow base e size v n xs := by
 refine ⟨h.1, ?_⟩
 rcases h.2 with h0 | ⟨g, cap, cur, e1, e2, e3, e4⟩
 ·exact .inl h0
 ·have hlt : g < w.heap.size := (World.ownsRow.lt h g (by rw [e1]; rfl)).2
  exact .inr ⟨g, cap, cur, e1, e2, (hg.block g hlt (hne g (by rw [e1]; rfl))).trans e3, e4⟩
theorem OwnZ.ch {w w' : World} {l : List Nat} {base : Nat} {v : Value} {z : List Int} (h : OwnZ w base v z) (hg : Ch w w' l) (hne : ∀ k, v.ownBlock = some k → k ∉ l) : OwnZ w' base v z := ownsRow_ch h hg hne
theorem OwnZ.grow {w w' : World} {base : Nat} {v : Value} {l : List Int} (h : OwnZ w base v l) (hg : w.grownBy w' none) : OwnZ w' base v l := World.ownsRow.kept h hg (Classical.em _)
theorem OwnZ.base {w : World} {base : Nat} {v : Value} {l : List Int} (h : OwnZ w base v l) : ∀ k, v.ownBlock = some k → base ≤ k := fun k hk => (World.ownsRow.lt h k hk).1
theorem OwnZ.lt {w : World} {base : Nat} {v : Value} {l : List Int} (h : OwnZ w base v l) : ∀ k, v.ownBlock = some k → k < w.heap.size := fun k hk => (World.ownsRow.lt h k hk).2
theorem OwnN.slice {w : World} {base n : Nat} {v : Value} {g : Nat → Int} (h : OwnN w base v n g) : ∃ a c, v = .slice a n c ∧ n ≤ c ∧ c ≤ maxLen ∧ (0 < n → ∃ T, a = some ⟨T, 0, none⟩ ∧ base ≤ T ∧ T < w.heap.size) := by
 rcases h.2 with ⟨rfl, h0⟩ | ⟨T, c, cur, rfl, e2, e3, e4, e5, _⟩
 ·exact ⟨none, 0, by rw [h0], by omega, Nat.zero_le _, fun h => by omega⟩
 ·exact ⟨some ⟨T, 0, none⟩, c, rfl, e4, e5, fun _ => ⟨T, rfl, e2, (World.ownsRow.lt h T rfl).2⟩⟩
theorem OwnZ.slice {w : World} {base : Nat} {v : Value} {l : List Int} (h : OwnZ w base v l) : ∃ a c, v = .slice a l.length c ∧ l.length ≤ c ∧ c ≤ maxLen ∧ (0 < l.length → ∃ T, a = some ⟨T, 0, none⟩ ∧ base ≤ T ∧ T < w.heap.size) := h.n.slice
theorem OwnN.cell {w : World} {base n c T : Nat} {g : Nat → Int} (h : OwnN w base (.slice (some ⟨T, 0, none⟩) n c) n g) {i : Nat} (hi : i < n) : w.cell? ⟨T, i, none⟩ = some (.int .i64 (g i)) := by
 rw [World.ownsRow.cellAt h i (by omega), List.getElem?_map, List.getElem?_range hi]
 rfl
theorem grown_set (w : World) (T i : Nat) (u : Value) : w.grownBy (w.setCell ⟨T, i, none⟩ u) (some T) := grown_setCell _ _ _ _
theorem info_int : (Tryz.prog.info? 3).map (fun i => (i.zero, i.size, i.bytes)) = some (some (.int .i64 0), 1, 8) := by kernel_rfl
theorem NumIn.at {N : Nat} {w : World} {a : Option Addr} {n c : Nat} {M : Nat → Int} (h : NumIn N w a n c M) {i : Nat} (hi : i < n) : ∃ b off, a = some ⟨b, off, none⟩ ∧ b < N ∧ w.cell? ⟨b, off + i, none⟩ = some (.int .i64 (M i)) := by
 rcases h.lie with h0 | ⟨b, off, e, hb, hh⟩
 ·omega
 ·exact ⟨b, off, e, hb, hh i hi⟩
theorem wp_appZs {ops : Array Oper} {rest : List Oper} {o : Oper} {a : Act} {Q : Exit → Act → World → Prop} {W : World} (hgd : o.guard = none) (s x : Operand)
  (ho : o.op = .call { callee := .builtin .append, args := #[s, x], argTypes := #[48, 48] }) (base : Nat) (v u : Value) (l m : List Int) (b2 : Nat) (hs : a.eval s = v) (hown : OwnZ W base v l)
  (hx : a.eval x = u) (hsrc : OwnZ W b2 u m) (hl : l.length ≤ 2000000) (hm : m.length ≤ 2000000) (hb : base ≤ W.heap.size)
  (h : ∀ v' w', OwnZ w' base v' (l ++ m) → W.grownBy w' v.ownBlock → wpList Tryz.prog ops Q rest (a.put o.dst v') w') : wpList Tryz.prog ops Q (o :: rest) a W := by
 obtain ⟨i, hi, hz0, hz1, hz2⟩ := info_parts info_int
 rcases hsrc.2 with ⟨rfl, h0⟩ | ⟨T, c, cur, rfl, _⟩
 ·have : m = [] := List.length_eq_zero_iff.1 h0
  subst this
  refine wpList_append_own_none hgd s x 48 ho base 3 i 1 Tryz.underlying48 hi v l.length (l.map (Value.int .i64)) hs hown hx ?_
  exact h v W (by rw [List.append_nil]; exact hown) gr0
 ·refine wpList_append_own _ hgd s x 48 ho base 3 i (.int .i64 0) 1 8 Tryz.underlying48 hi hz0 hz1 hz2 rfl (by decide) v l.length (l.map (Value.int .i64)) hs hown ⟨T, 0, none⟩ m.length c (m.map (Value.int .i64)) hx (by simp)
   (fun j y hj => World.ownsRow.cells hsrc rfl j y hj) (by intro y hy; obtain ⟨z, _, rfl⟩ := List.mem_map.mp hy; rfl) (by unfold maxLen; omega) (by omega) hb ?_
  intro v' w2 ho2 hg2 _
  refine h v' w2 ?_ hg2
  unfold OwnZ
  rw [List.length_append, List.map_append]
  exact ho2
namespace Pg
inductive Ex where
 | mk (op t n : Int) (s : ByteArray) (args : List Ex)
inductive St where
 | mk (op n : Int) (args : List Ex) (dst : List Int) (a b : List St)
def Ex.op : Ex → Int
 | .mk op _ _ _ _ => op
def Ex.t : Ex → Int
 | .mk _ t _ _ _ => t
def Ex.n : Ex → Int
 | .mk _ _ n _ _ => n
def Ex.s : Ex → ByteArray
 | .mk _ _ _ s _ => s
def Ex.args : Ex → List Ex
 | .mk _ _ _ _ l => l
def St.op : St → Int
 | .mk op _ _ _ _ _ => op
def St.n : St → Int
 | .mk _ n _ _ _ _ => n
def St.args : St → List Ex
 | .mk _ _ l _ _ _ => l
def St.dst : St → List Int
 | .mk _ _ _ d _ _ => d
def St.a : St → List St
 | .mk _ _ _ _ a _ => a
def St.b : St → List St
 | .mk _ _ _ _ _ b => b
theorem Ex.ind {P : Ex → Prop} (h : ∀ op t n s args, (∀ x, x ∈ args → P x) → P (.mk op t n s args)) : ∀ x, P x
 | .mk op t n s args => h op t n s args fun x hx => Ex.ind h x
theorem St.ind {P : St → Prop} (h : ∀ op n args dst a b, (∀ x, x ∈ a → P x) → (∀ x, x ∈ b → P x) → P (.mk op n args dst a b)) : ∀ x, P x
 | .mk op n args dst a b => h op n args dst a b (fun x hx => St.ind h x) (fun x hx => St.ind h x)
structure Tp where
 kind : Int
 elem : Int
 n : Int
 fields : List Int
structure Fn where
 params : Int
 locals : List Int
 results : List Int
 body : List St
structure Pr where
 types : List Tp
 funcs : List Fn
end Pg
structure RowL {α : Type} (c by' : Nat) (B : Nat → Prop) (Q : Nat → Nat → α → Prop) (a : Option Addr) (cap : Nat) (l : List α) : Prop where
 nil : a = none → l = [] ∧ cap = 0
 le : l.length ≤ cap
 max : cap ≤ maxLen
 fits : l.length * by' ≤ reachBytes
 lie : l = [] ∨ ∃ b o, a = some ⟨b, o, none⟩ ∧ B b ∧ ∀ i x, l[i]? = some x → Q b (o + i * c) x
theorem RowL.mono {α : Type} {c by' : Nat} {B B' : Nat → Prop} {Q Q' : Nat → Nat → α → Prop} {a : Option Addr} {cap : Nat} {l : List α} (h : RowL c by' B Q a cap l) (hB : ∀ k, B k → B' k) (hQ : ∀ b o x, B b → x ∈ l → Q b o x → Q' b o x) : RowL c by' B' Q' a cap l :=
 ⟨h.nil, h.le, h.max, h.fits, by
  rcases h.lie with h0 | ⟨b, o, e, hb, hx⟩
  ·exact .inl h0
  ·exact .inr ⟨b, o, e, hB b hb, fun i x hi => hQ _ _ _ hb (List.mem_of_getElem? hi) (hx i x hi)⟩⟩
theorem RowL.at {α : Type} {c by' : Nat} {B : Nat → Prop} {Q : Nat → Nat → α → Prop} {a : Option Addr} {cap : Nat} {l : List α} (h : RowL c by' B Q a cap l) {i : Nat} (hi : i < l.length) : ∃ b o, a = some ⟨b, o, none⟩ ∧ B b ∧ Q b (o + i * c) l[i] := by
 rcases h.lie with h0 | ⟨b, o, e, hb, hx⟩
 ·subst h0; simp at hi
 ·exact ⟨b, o, e, hb, hx i _ (List.getElem?_eq_getElem hi)⟩
def NumQ (W : World) (b o : Nat) (z : Int) : Prop := W.cell? ⟨b, o, none⟩ = some (.int .i64 z)
abbrev NumL (B : Nat → Prop) (W : World) (a : Option Addr) (cap : Nat) (l : List Int) : Prop := RowL 1 8 B (NumQ W) a cap l
def R64 (n : Int) : Prop := -9223372036854775808 ≤ n ∧ n ≤ 9223372036854775807
inductive ExAt (B : Nat → Prop) (W : World) : Nat → Nat → Pg.Ex → Prop
 | mk {b o : Nat} {op t n : Int} {s : ByteArray} {args : List Pg.Ex} {a : Option Addr} {c b' o' : Nat}
  (c0 : W.cell? ⟨b, o, none⟩ = some (.int .i64 op)) (c1 : W.cell? ⟨b, o + 1, none⟩ = some (.int .i64 t)) (c2 : W.cell? ⟨b, o + 2, none⟩ = some (.int .i64 n)) (c3 : W.cell? ⟨b, o + 3, none⟩ = some (.string s)) (c4 : W.cell? ⟨b, o + 4, none⟩ = some (.slice a args.length c))
  (rg : R64 n) (sz : s.size ≤ reachBytes) (nil : a = none → args = [] ∧ c = 0) (le : args.length ≤ c) (max : c ≤ maxLen) (fits : args.length * 64 ≤ reachBytes) (pl : args ≠ [] → a = some ⟨b', o', none⟩ ∧ B b')
  (all : ∀ i x, args[i]? = some x → ExAt B W b' (o' + i * 5) x) : ExAt B W b o (.mk op t n s args)
abbrev ExL (B : Nat → Prop) (W : World) (a : Option Addr) (cap : Nat) (l : List Pg.Ex) : Prop := RowL 5 64 B (ExAt B W) a cap l
structure ExC (B : Nat → Prop) (W : World) (b o : Nat) (x : Pg.Ex) (a : Option Addr) (c : Nat) : Prop where
 c0 : W.cell? ⟨b, o, none⟩ = some (.int .i64 x.op)
 c1 : W.cell? ⟨b, o + 1, none⟩ = some (.int .i64 x.t)
 c2 : W.cell? ⟨b, o + 2, none⟩ = some (.int .i64 x.n)
 c3 : W.cell? ⟨b, o + 3, none⟩ = some (.string x.s)
 c4 : W.cell? ⟨b, o + 4, none⟩ = some (.slice a x.args.length c)
 rg : R64 x.n
 sz : x.s.size ≤ reachBytes
 args : ExL B W a c x.args
theorem ExAt.row {B : Nat → Prop} {W : World} {b o : Nat} {x : Pg.Ex} (h : ExAt B W b o x) : ∃ a c, ExC B W b o x a c := by
 cases h with
 | mk c0 c1 c2 c3 c4 rg sz nil le max fits pl all =>
  refine ⟨_, _, c0, c1, c2, c3, c4, rg, sz, nil, le, max, fits, ?_⟩
  rename_i args _ _ _ _
  by_cases h0 : args = []
  ·exact .inl h0
  ·exact .inr ⟨_, _, (pl h0).1, (pl h0).2, all⟩
theorem ExC.at {B : Nat → Prop} {W : World} {b o : Nat} {x : Pg.Ex} {a : Option Addr} {c : Nat} (h : ExC B W b o x a c) : ExAt B W b o x := by
 obtain ⟨op, t, n, s, args⟩ := x
 obtain ⟨c0, c1, c2, c3, c4, rg, sz, h⟩ := h
 rcases h.lie with h0 | ⟨b', o', e, hb, hx⟩
 ·exact .mk (b' := 0) (o' := 0) c0 c1 c2 c3 c4 rg sz h.nil h.le h.max h.fits (fun hn => absurd h0 hn) (fun i x hi => by rw [show args = [] from h0] at hi; simp at hi)
 ·exact .mk c0 c1 c2 c3 c4 rg sz h.nil h.le h.max h.fits (fun _ => ⟨e, hb⟩) hx
theorem ExAt.ch {B B' : Nat → Prop} {W W' : World} {l : List Nat} (hg : Ch W W' l) (hl : ∀ k, B k → k ∉ l) (hB : ∀ k, B k → B' k) : ∀ {b o : Nat} {x : Pg.Ex}, ExAt B W b o x → b ∉ l → ExAt B' W' b o x
 | _, _, _, .mk c0 c1 c2 c3 c4 rg sz nil le max fits pl all, hb =>
  .mk (hg.cell c0 hb) (hg.cell c1 hb) (hg.cell c2 hb) (hg.cell c3 hb) (hg.cell c4 hb) rg sz nil le max fits (fun h => ⟨(pl h).1, hB _ (pl h).2⟩) (fun i x hi => ExAt.ch hg hl hB (all i x hi) (hl _ (pl (by intro h; rw [h] at hi; simp at hi)).2))
theorem ExL.ch {B B' : Nat → Prop} {W W' : World} {l : List Nat} {a : Option Addr} {cap : Nat} {xs : List Pg.Ex} (h : ExL B W a cap xs) (hg : Ch W W' l) (hl : ∀ k, B k → k ∉ l) (hB : ∀ k, B k → B' k) : ExL B' W' a cap xs := h.mono hB (fun b o x hb _ hx => ExAt.ch hg hl hB hx (hl b hb))
theorem NumL.ch {B B' : Nat → Prop} {W W' : World} {l : List Nat} {a : Option Addr} {cap : Nat} {xs : List Int} (h : NumL B W a cap xs) (hg : Ch W W' l) (hl : ∀ k, B k → k ∉ l) (hB : ∀ k, B k → B' k) : NumL B' W' a cap xs := h.mono hB (fun b o x hb _ hx => hg.cell hx (hl b hb))
inductive StAt (B : Nat → Prop) (W : World) : Nat → Nat → Pg.St → Prop
 | mk {b o : Nat} {op n : Int} {args : List Pg.Ex} {dst : List Int} {xa xb : List Pg.St} {a1 a2 a3 a4 : Option Addr} {k1 k2 k3 k4 b3 o3 b4 o4 : Nat}
  (c0 : W.cell? ⟨b, o, none⟩ = some (.int .i64 op)) (c1 : W.cell? ⟨b, o + 1, none⟩ = some (.int .i64 n)) (c2 : W.cell? ⟨b, o + 2, none⟩ = some (.slice a1 args.length k1)) (c3 : W.cell? ⟨b, o + 3, none⟩ = some (.slice a2 dst.length k2)) (c4 : W.cell? ⟨b, o + 4, none⟩ = some (.slice a3 xa.length k3)) (c5 : W.cell? ⟨b, o + 5, none⟩ = some (.slice a4 xb.length k4))
  (rg : R64 n) (h1 : ExL B W a1 k1 args) (h2 : NumL B W a2 k2 dst)
  (n3 : a3 = none → xa = [] ∧ k3 = 0) (l3 : xa.length ≤ k3) (m3 : k3 ≤ maxLen) (f3 : xa.length * 112 ≤ reachBytes) (p3 : xa ≠ [] → a3 = some ⟨b3, o3, none⟩ ∧ B b3) (q3 : ∀ i x, xa[i]? = some x → StAt B W b3 (o3 + i * 6) x)
  (n4 : a4 = none → xb = [] ∧ k4 = 0) (l4 : xb.length ≤ k4) (m4 : k4 ≤ maxLen) (f4 : xb.length * 112 ≤ reachBytes) (p4 : xb ≠ [] → a4 = some ⟨b4, o4, none⟩ ∧ B b4) (q4 : ∀ i x, xb[i]? = some x → StAt B W b4 (o4 + i * 6) x) : StAt B W b o (.mk op n args dst xa xb)
abbrev StL (B : Nat → Prop) (W : World) (a : Option Addr) (cap : Nat) (l : List Pg.St) : Prop := RowL 6 112 B (StAt B W) a cap l
structure StC (B : Nat → Prop) (W : World) (b o : Nat) (x : Pg.St) (a1 a2 a3 a4 : Option Addr) (k1 k2 k3 k4 : Nat) : Prop where
 c0 : W.cell? ⟨b, o, none⟩ = some (.int .i64 x.op)
 c1 : W.cell? ⟨b, o + 1, none⟩ = some (.int .i64 x.n)
 c2 : W.cell? ⟨b, o + 2, none⟩ = some (.slice a1 x.args.length k1)
 c3 : W.cell? ⟨b, o + 3, none⟩ = some (.slice a2 x.dst.length k2)
 c4 : W.cell? ⟨b, o + 4, none⟩ = some (.slice a3 x.a.length k3)
 c5 : W.cell? ⟨b, o + 5, none⟩ = some (.slice a4 x.b.length k4)
 rg : R64 x.n
 args : ExL B W a1 k1 x.args
 dst : NumL B W a2 k2 x.dst
 a : StL B W a3 k3 x.a
 b : StL B W a4 k4 x.b
theorem StAt.row {B : Nat → Prop} {W : World} {b o : Nat} {x : Pg.St} (h : StAt B W b o x) : ∃ a1 a2 a3 a4 k1 k2 k3 k4, StC B W b o x a1 a2 a3 a4 k1 k2 k3 k4 := by
 cases h with
 | mk c0 c1 c2 c3 c4 c5 rg h1 h2 n3 l3 m3 f3 p3 q3 n4 l4 m4 f4 p4 q4 =>
  refine ⟨_, _, _, _, _, _, _, _, c0, c1, c2, c3, c4, c5, rg, h1, h2, ⟨n3, l3, m3, f3, ?_⟩, ⟨n4, l4, m4, f4, ?_⟩⟩
  ·rename_i xa xb _ _ _ _ _ _ _ _ _ _ _ _
   by_cases h0 : xa = []
   ·exact .inl h0
   ·exact .inr ⟨_, _, (p3 h0).1, (p3 h0).2, q3⟩
  ·rename_i xa xb _ _ _ _ _ _ _ _ _ _ _ _
   by_cases h0 : xb = []
   ·exact .inl h0
   ·exact .inr ⟨_, _, (p4 h0).1, (p4 h0).2, q4⟩
theorem StC.at {B : Nat → Prop} {W : World} {b o : Nat} {x : Pg.St} {a1 a2 a3 a4 : Option Addr} {k1 k2 k3 k4 : Nat} (h : StC B W b o x a1 a2 a3 a4 k1 k2 k3 k4) : StAt B W b o x := by
 obtain ⟨op, n, args, dst, xa, xb⟩ := x
 obtain ⟨c0, c1, c2, c3, c4, c5, rg, h1, h2, h3, h4⟩ := h
 have g : ∀ {a : Option Addr} {k : Nat} {l : List Pg.St}, StL B W a k l → ∃ b' o', (l ≠ [] → a = some ⟨b', o', none⟩ ∧ B b') ∧ ∀ i x, l[i]? = some x → StAt B W b' (o' + i * 6) x := by
  intro a k l h
  rcases h.lie with h0 | ⟨b', o', e, hb, hx⟩
  ·exact ⟨0, 0, fun hn => absurd h0 hn, fun i x hi => by rw [h0] at hi; simp at hi⟩
  ·exact ⟨b', o', fun _ => ⟨e, hb⟩, hx⟩
 obtain ⟨b3, o3, p3, q3⟩ := g h3
 obtain ⟨b4, o4, p4, q4⟩ := g h4
 exact .mk c0 c1 c2 c3 c4 c5 rg h1 h2 h3.nil h3.le h3.max h3.fits p3 q3 h4.nil h4.le h4.max h4.fits p4 q4
theorem StAt.ch {B B' : Nat → Prop} {W W' : World} {l : List Nat} (hg : Ch W W' l) (hl : ∀ k, B k → k ∉ l) (hB : ∀ k, B k → B' k) : ∀ {b o : Nat} {x : Pg.St}, StAt B W b o x → b ∉ l → StAt B' W' b o x
 | _, _, _, .mk c0 c1 c2 c3 c4 c5 rg h1 h2 n3 l3 m3 f3 p3 q3 n4 l4 m4 f4 p4 q4, hb =>
  .mk (hg.cell c0 hb) (hg.cell c1 hb) (hg.cell c2 hb) (hg.cell c3 hb) (hg.cell c4 hb) (hg.cell c5 hb) rg (ExL.ch h1 hg hl hB) (NumL.ch h2 hg hl hB)
   n3 l3 m3 f3 (fun h => ⟨(p3 h).1, hB _ (p3 h).2⟩) (fun i x hi => StAt.ch hg hl hB (q3 i x hi) (hl _ (p3 (by intro h; rw [h] at hi; simp at hi)).2))
   n4 l4 m4 f4 (fun h => ⟨(p4 h).1, hB _ (p4 h).2⟩) (fun i x hi => StAt.ch hg hl hB (q4 i x hi) (hl _ (p4 (by intro h; rw [h] at hi; simp at hi)).2))
theorem StL.ch {B B' : Nat → Prop} {W W' : World} {l : List Nat} {a : Option Addr} {cap : Nat} {xs : List Pg.St} (h : StL B W a cap xs) (hg : Ch W W' l) (hl : ∀ k, B k → k ∉ l) (hB : ∀ k, B k → B' k) : StL B' W' a cap xs := h.mono hB (fun b o x hb _ hx => StAt.ch hg hl hB hx (hl b hb))
structure TpC (B : Nat → Prop) (W : World) (b o : Nat) (x : Pg.Tp) (a : Option Addr) (k : Nat) : Prop where
 c0 : W.cell? ⟨b, o, none⟩ = some (.int .i64 x.kind)
 c1 : W.cell? ⟨b, o + 1, none⟩ = some (.int .i64 x.elem)
 c2 : W.cell? ⟨b, o + 2, none⟩ = some (.int .i64 x.n)
 c3 : W.cell? ⟨b, o + 3, none⟩ = some (.slice a x.fields.length k)
 f : NumL B W a k x.fields
def TpAt (B : Nat → Prop) (W : World) (b o : Nat) (x : Pg.Tp) : Prop := ∃ a k, TpC B W b o x a k
abbrev TpL (B : Nat → Prop) (W : World) (a : Option Addr) (cap : Nat) (l : List Pg.Tp) : Prop := RowL 4 48 B (TpAt B W) a cap l
theorem TpAt.ch {B B' : Nat → Prop} {W W' : World} {l : List Nat} (hg : Ch W W' l) (hl : ∀ k, B k → k ∉ l) (hB : ∀ k, B k → B' k) {b o : Nat} {x : Pg.Tp} (h : TpAt B W b o x) (hb : b ∉ l) : TpAt B' W' b o x := by
 obtain ⟨a, k, h⟩ := h
 exact ⟨a, k, hg.cell h.c0 hb, hg.cell h.c1 hb, hg.cell h.c2 hb, hg.cell h.c3 hb, NumL.ch h.f hg hl hB⟩
theorem TpL.ch {B B' : Nat → Prop} {W W' : World} {l : List Nat} {a : Option Addr} {cap : Nat} {xs : List Pg.Tp} (h : TpL B W a cap xs) (hg : Ch W W' l) (hl : ∀ k, B k → k ∉ l) (hB : ∀ k, B k → B' k) : TpL B' W' a cap xs := h.mono hB (fun b o x hb _ hx => TpAt.ch hg hl hB hx (hl b hb))
structure FnC (B : Nat → Prop) (W : World) (b o : Nat) (x : Pg.Fn) (a1 a2 a3 : Option Addr) (k1 k2 k3 : Nat) : Prop where
 c0 : W.cell? ⟨b, o, none⟩ = some (.int .i64 x.params)
 c1 : W.cell? ⟨b, o + 1, none⟩ = some (.slice a1 x.locals.length k1)
 c2 : W.cell? ⟨b, o + 2, none⟩ = some (.slice a2 x.results.length k2)
 c3 : W.cell? ⟨b, o + 3, none⟩ = some (.slice a3 x.body.length k3)
 l : NumL B W a1 k1 x.locals
 r : NumL B W a2 k2 x.results
 b : StL B W a3 k3 x.body
def FnAt (B : Nat → Prop) (W : World) (b o : Nat) (x : Pg.Fn) : Prop := ∃ a1 a2 a3 k1 k2 k3, FnC B W b o x a1 a2 a3 k1 k2 k3
abbrev FnL (B : Nat → Prop) (W : World) (a : Option Addr) (cap : Nat) (l : List Pg.Fn) : Prop := RowL 4 80 B (FnAt B W) a cap l
theorem FnAt.ch {B B' : Nat → Prop} {W W' : World} {l : List Nat} (hg : Ch W W' l) (hl : ∀ k, B k → k ∉ l) (hB : ∀ k, B k → B' k) {b o : Nat} {x : Pg.Fn} (h : FnAt B W b o x) (hb : b ∉ l) : FnAt B' W' b o x := by
 obtain ⟨a1, a2, a3, k1, k2, k3, h⟩ := h
 exact ⟨a1, a2, a3, k1, k2, k3, hg.cell h.c0 hb, hg.cell h.c1 hb, hg.cell h.c2 hb, hg.cell h.c3 hb, NumL.ch h.l hg hl hB, NumL.ch h.r hg hl hB, StL.ch h.b hg hl hB⟩
theorem FnL.ch {B B' : Nat → Prop} {W W' : World} {l : List Nat} {a : Option Addr} {cap : Nat} {xs : List Pg.Fn} (h : FnL B W a cap xs) (hg : Ch W W' l) (hl : ∀ k, B k → k ∉ l) (hB : ∀ k, B k → B' k) : FnL B' W' a cap xs := h.mono hB (fun b o x hb _ hx => FnAt.ch hg hl hB hx (hl b hb))
structure PrC (B : Nat → Prop) (W : World) (x : Pg.Pr) (a1 a2 : Option Addr) (k1 k2 : Nat) : Prop where
 t : TpL B W a1 k1 x.types
 f : FnL B W a2 k2 x.funcs
theorem PrC.ch {B B' : Nat → Prop} {W W' : World} {l : List Nat} (hg : Ch W W' l) (hl : ∀ k, B k → k ∉ l) (hB : ∀ k, B k → B' k) {x : Pg.Pr} {a1 a2 : Option Addr} {k1 k2 : Nat} (h : PrC B W x a1 a2 k1 k2) : PrC B' W' x a1 a2 k1 k2 := ⟨TpL.ch h.t hg hl hB, FnL.ch h.f hg hl hB⟩
end Go.Proofs.YtpcgkggpmipiaaaGreat
