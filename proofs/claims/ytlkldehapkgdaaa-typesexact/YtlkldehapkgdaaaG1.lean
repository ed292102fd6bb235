/- Contracts and plain facts that the walks share, text by text: Plain, Leaf, Canon, RSmall, MBase, RcPure, RcLeaf, RcA, RcDefs, RcT, RuTail, ChN, OpenG, TyPure, TyLay, TyAsk, TyStr, TyFind, TyOne, TyNew. -/
import Derived.Test.YtlkldehapkgdaaaRows
import Derived.WalkKit
import Derived.WalkSpells
import Derived.WalkLawsBesides
import Derived.Deep.QuietTactic
import Derived.BigQuiet
import Derived.Deep.OwnRows
import Derived.Below
import Derived.Handy
import Derived.StillTailTactics
import Derived.Deep.RegionWith
import Derived.Laws.AppendOwnNone
import Derived.Deep.Onto
import Derived.Deep.Slices
import Derived.OpenShut
import Derived.SizedLaws
import Derived.BigGuardPart
import Derived.Laws.EntriesVeiled
/- What words are, as plain functions on integers (words are the integers from 0 to 2^64 - 1): no Go here. -/
namespace Go.Proofs.Ytlkldehapkgdaaa
namespace Wd

def wid (k : Int) : Int := if k = 1 then 1 else if k = 2 ∨ k = 6 then 8 else if k = 3 ∨ k = 7 then 16 else if k = 4 ∨ k = 8 then 32 else if k = 5 ∨ k = 9 ∨ k = 10 ∨ k = 11 then 64 else 0

/-- the word whose lowest bits are x's, m = 2^width, h = m / 2 -/
def sx (m h x : Int) : Int := ((x + h) % m - h) % 18446744073709551616

def canon (k x : Int) : Int :=
  if k = 1 then x % 2 else if k = 2 then sx 256 128 x else if k = 3 then sx 65536 32768 x else if k = 4 then sx 4294967296 2147483648 x
  else if k = 5 then x % 18446744073709551616 else if k = 6 then x % 256 else if k = 7 then x % 65536 else if k = 8 then x % 4294967296
  else if k = 9 then x % 18446744073709551616 else if k = 10 then x % 18446744073709551616 else if k = 11 then x % 18446744073709551616 else 0

def intB (k : Int) : Bool := decide (2 ≤ k) && decide (k ≤ 9)
def numB (k : Int) : Bool := decide (2 ≤ k) && decide (k ≤ 10)
def cmpB (op : Int) : Bool := decide (11 ≤ op) && decide (op ≤ 16)
def hasUnB (op k : Int) : Bool := (op == 1 && numB k) || (op == 2 && k == 1) || (op == 3 && intB k)
def hasBinB (op k : Int) : Bool :=
  (intB k && decide (1 ≤ op) && decide (op ≤ 16)) || (k == 10 && ((decide (1 ≤ op) && decide (op ≤ 4)) || cmpB op)) ||
  (k == 1 && (op == 6 || op == 7 || op == 8 || op == 11 || op == 12)) || (k == 11 && (op == 11 || op == 12))

def tr (b : Bool) : Int := if b then 1 else 0

/-- the order of two numbers -/
def cmpI (op a b : Int) : Int :=
  if op = 11 then tr (a == b) else if op = 12 then tr (a != b) else if op = 13 then tr (decide (a < b)) else if op = 14 then tr (decide (a ≤ b))
  else if op = 15 then tr (decide (b < a)) else if op = 16 then tr (decide (b ≤ a)) else 0

/-- the signed number of 64 bits -/
def sg (x : Int) : Int := (x + 9223372036854775808) % 18446744073709551616 - 9223372036854775808

/-- unsigned kinds, bools and pointers -/
def bu (op k x y : Int) : Int :=
  if op = 1 then canon k (x + y) else if op = 2 then canon k (x - y) else if op = 3 then canon k (x * y) else if op = 4 then canon k (x / y) else if op = 5 then canon k (x % y)
  else if op = 6 then canon k (x.toNat &&& y.toNat : Nat) else if op = 7 then canon k (x.toNat ||| y.toNat : Nat) else if op = 8 then canon k (x.toNat ^^^ y.toNat : Nat)
  else if op = 9 then canon k (x * 2 ^ min y.toNat 64) else if op = 10 then canon k (x / 2 ^ min y.toNat 64) else cmpI op x y

def bs (op k x y : Int) : Int :=
  if op = 4 then canon k ((sg x).tdiv (sg y)) else if op = 5 then canon k ((sg x).tmod (sg y)) else if op = 10 then (sg x / 2 ^ min y.toNat 64) % 18446744073709551616
  else if 11 ≤ op then cmpI op (sg x) (sg y) else bu op k x y

theorem kinds (k : Int) : k = 1 ∨ k = 2 ∨ k = 3 ∨ k = 4 ∨ k = 5 ∨ k = 6 ∨ k = 7 ∨ k = 8 ∨ k = 9 ∨ k = 10 ∨ k = 11 ∨ (k < 1 ∨ 11 < k) := by omega
end Wd
end Go.Proofs.Ytlkldehapkgdaaa

/- The small functions of package word, each a plain function of its arguments: contracts. -/
namespace Go.Proofs.Ytlkldehapkgdaaa
open Go.RowKit

theorem ret_i64 {a b : Int} (h : a = b) : Ending.returned (.int .i64 a) = .returned (.int .i64 b) := by rw [h]
theorem ret_bool {a b : Bool} (h : a = b) : Ending.returned (.bool a) = .returned (.bool b) := by rw [h]

set_option maxHeartbeats 400000 in
theorem width_any (k : Int) (w : World) :
    Calls Try.prog 56 #[.int .i64 k] w fun e w' => e = .returned (.int .i64 (Wd.wid k)) ∧ w' = w := by
  go_enter Try.func56, Try.ntmps56
  go_wp2
  all_goals (go_ret; refine ⟨ret_i64 ?_, rfl⟩; simp only [beq_iff_eq, beq_eq_false_iff_ne] at *; unfold Wd.wid; simp [*])

end Go.Proofs.Ytlkldehapkgdaaa

/- Canon, Is, Bytes and the comparisons of package word: contracts. -/
namespace Go.Proofs.Ytlkldehapkgdaaa
open Go.RowKit

end Go.Proofs.Ytlkldehapkgdaaa

/- The small functions of the page's own words (package gantryref1), and word.Bytes: contracts, by the same plain functions as package word's. -/
namespace Go.Proofs.Ytlkldehapkgdaaa
open Go.RowKit
set_option linter.unusedVariables false

namespace Wd
def by' (k : Int) : Int := (wid k + 7) / 8
end Wd

namespace Wd
def wordB (k : Int) : Bool := decide (1 ≤ k) && decide (k ≤ 11)
end Wd

set_option maxHeartbeats 400000 in
theorem bytes_any (k : Int) (w : World) :
    Calls Try.prog 55 #[.int .i64 k] w fun e w' => e = .returned (.int .i64 (Wd.by' k)) ∧ w' = w := by
  have h1 : 0 ≤ Wd.wid k := by unfold Wd.wid; repeat' split
                               all_goals omega
  have h2 : Wd.wid k ≤ 64 := by unfold Wd.wid; repeat' split
                                all_goals omega
  go_enter Try.func55, Try.ntmps55
  go_wp2_with (go_at_call 56; refine (width_any _ _).mono ?_; rintro e w' ⟨rfl, rfl⟩)
  go_ret
  exact ⟨rfl, rfl⟩

set_option maxHeartbeats 400000 in
theorem rwidth_any (k : Int) (w : World) :
    Calls Try.prog 44 #[.int .i64 k] w fun e w' => e = .returned (.int .i64 (Wd.wid k)) ∧ w' = w := by
  go_enter Try.func44, Try.ntmps44
  go_wp2
  all_goals (go_ret; refine ⟨ret_i64 ?_, rfl⟩; simp only [beq_iff_eq, beq_eq_false_iff_ne] at *; unfold Wd.wid; simp [*])

set_option maxHeartbeats 400000 in
theorem rbytes_any (k : Int) (w : World) :
    Calls Try.prog 31 #[.int .i64 k] w fun e w' => e = .returned (.int .i64 (Wd.by' k)) ∧ w' = w := by
  have h1 : 0 ≤ Wd.wid k := by unfold Wd.wid; repeat' split
                               all_goals omega
  have h2 : Wd.wid k ≤ 64 := by unfold Wd.wid; repeat' split
                                all_goals omega
  by_cases hk : k = 1
  · subst hk
    go_enter Try.func31, Try.ntmps31
    go_wp2_with (go_at_call 44; refine (rwidth_any _ _).mono ?_; rintro e w' ⟨rfl, rfl⟩)
    go_ret
    exact ⟨rfl, rfl⟩
  · have hk' : (k == 1) = false := by simpa using hk
    have Hb : Hid (Wd.by' k = Wd.wid k / 8) := by
      show _ = _
      unfold Wd.by' Wd.wid; repeat' split
      all_goals omega
    clear hk
    go_enter Try.func31, Try.ntmps31
    go_wp2_with (go_at_call 44; refine (rwidth_any _ _).mono ?_; rintro e w' ⟨rfl, rfl⟩)
    go_ret
    exact ⟨ret_i64 Hb.out.symm, rfl⟩

set_option maxHeartbeats 400000 in
theorem rword_any (k : Int) (w : World) :
    Calls Try.prog 52 #[.int .i64 k] w fun e w' => e = .returned (.bool (Wd.wordB k)) ∧ w' = w := by
  go_enter Try.func52, Try.ntmps52
  go_wp2
  all_goals (go_ret; refine ⟨ret_bool ?_, rfl⟩; simp only [Wd.wordB] at *; first | (rw [Bool.eq_iff_iff]; simp at *; omega))

end Go.Proofs.Ytlkldehapkgdaaa

/- Bytes and memories: what a row of bytes holds, as a function of the index; what a number's bytes are. No Go here. -/
namespace Go.Proofs.Ytlkldehapkgdaaa
open Go.RowKit
set_option linter.unusedVariables false

namespace Mm
/-- the number that n bytes from a on are, the lowest one first -/
def ld (m : Nat → Int) (a : Nat) : Nat → Int
  | 0 => 0
  | n + 1 => ld m a n + m (a + n) * 256 ^ n
/-- a number's byte -/
def by8 (x : Int) (i : Nat) : Int := x / 256 ^ i % 256
/-- do all numbers fit a byte? -/
def Fit (m : Nat → Int) : Prop := ∀ i, 0 ≤ m i ∧ m i < 256

theorem mod_mul (x a b : Int) (ha : 0 < a) (hb : 0 < b) : x % (a * b) = x % a + a * (x / a % b) := by
  have h1 := Int.mul_ediv_add_emod x a
  have h2 := Int.mul_ediv_add_emod (x / a) b
  have h3 := Int.emod_nonneg x (show a ≠ 0 by omega)
  have h4 := Int.emod_lt_of_pos x ha
  have h5 := Int.emod_nonneg (x / a) (show b ≠ 0 by omega)
  have h6 := Int.emod_lt_of_pos (x / a) hb
  have e : x = (x % a + a * (x / a % b)) + a * b * (x / a / b) := by
    have : a * (x / a) = a * (b * (x / a / b)) + a * (x / a % b) := by rw [← Int.mul_add, h2]
    rw [Int.mul_assoc]; omega
  have k1 : 0 ≤ a * (x / a % b) := Int.mul_nonneg (by omega) h5
  have k2 : a * (x / a % b) ≤ a * (b - 1) := Int.mul_le_mul_of_nonneg_left (by omega) (by omega)
  rw [Int.mul_sub, Int.mul_one] at k2
  have k3 : (x % a + a * (x / a % b) + a * b * (x / a / b)) % (a * b) = x % a + a * (x / a % b) := by
    rw [Int.add_mul_emod_self_left]
    exact Int.emod_eq_of_lt (by omega) (by omega)
  rw [← e] at k3
  exact k3
theorem pow_pos (n : Nat) : (0 : Int) < 256 ^ n := Int.pow_pos (by omega)
theorem ld_succ (m : Nat → Int) (a n : Nat) : ld m a (n + 1) = ld m a n + m (a + n) * 256 ^ n := rfl
theorem ld_congr {m m' : Nat → Int} {a a' n : Nat} (h : ∀ i, i < n → m (a + i) = m' (a' + i)) : ld m a n = ld m' a' n := by
  induction n with
  | zero => rfl
  | succ n ih => rw [ld_succ, ld_succ, ih (fun i hi => h i (by omega)), h n (by omega)]
theorem ld_by8 (x : Int) (n : Nat) : ld (by8 x) 0 n = x % 256 ^ n := by
  induction n with
  | zero => simp [ld, Int.emod_one]
  | succ n ih =>
    rw [ld_succ, ih, Nat.zero_add, Int.pow_succ, mod_mul _ _ _ (pow_pos n) (by omega)]
    unfold by8
    rw [Int.mul_comm]
end Mm

namespace Mm
end Mm

/-- a memory: the struct's block B holds a slice of all S bytes that lie in block D -/
structure IsMem (t : TypeId) (w : World) (B D S : Nat) (m : Nat → Int) : Prop where
  head : w.rowIs B t 1 (fun _ => .slice (some ⟨D, 0, none⟩) S S)
  row : w.rowIs D 5 S (fun i => .int .u8 (m i))
  fit : Mm.Fit m

theorem IsMem.kept {t : TypeId} {w w' : World} {B D S : Nat} {m : Nat → Int} {row : Option Nat} (h : IsMem t w B D S m) (hg : w.grownBy w' row) (h1 : some B ≠ row) (h2 : some D ≠ row) : IsMem t w' B D S m :=
  ⟨h.head.of_block (hg.block B h.head.lt h1), h.row.of_block (hg.block D h.row.lt h2), h.fit⟩

theorem IsMem.below {t : TypeId} {w w' : World} {B D S N : Nat} {m : Nat → Int} (h : IsMem t w B D S m) (hg : Below N w w') (h1 : B < N) (h2 : D < N) : IsMem t w' B D S m :=
  ⟨h.head.of_block (hg.block B h1), h.row.of_block (hg.block D h2), h.fit⟩

theorem grown_trans {w w' w'' : World} {row : Option Nat} (h : w.grownBy w' row) (k : w'.grownBy w'' row) : w.grownBy w'' row :=
  ⟨k.os.trans h.os, k.tape.trans h.tape, k.output.trans h.output, Nat.le_trans h.size k.size, fun i hi hr => (k.block i (Nat.lt_of_lt_of_le hi h.size) hr).trans (h.block i hi hr)⟩
theorem grown_setCell (w : World) (b i : Nat) (v : Value) : w.grownBy (w.setCell ⟨b, i, none⟩ v) (some b) :=
  ⟨rfl, rfl, rfl, by simp [World.setCell], fun k hk hr => Below.heap_setCell _ _ _ _ (fun e => hr (by rw [e]))⟩
theorem grown_drewN {w w' : World} {row : Option Nat} (h : w.grownBy w' row) (n : Nat) : w.grownBy (w'.drewN n) row := by
  refine grown_trans h ?_
  induction n with
  | zero => exact ⟨rfl, rfl, rfl, Nat.le_refl _, fun _ _ _ => rfl⟩
  | succ n ih => exact grown_trans ih ⟨rfl, rfl, rfl, Nat.le_refl _, fun _ _ _ => rfl⟩
theorem grown_two {w w1 w2 : World} {b : Nat} (hg1 : w.grownBy w1 none) (hg2 : w1.grownBy w2 (some b)) (hb : w.heap.size ≤ b) : w.grownBy w2 none := by
  refine ⟨hg2.os.trans hg1.os, hg2.tape.trans hg1.tape, hg2.output.trans hg1.output, Nat.le_trans hg1.size hg2.size, fun k hk _ => ?_⟩
  have hne : some k ≠ some b := by intro e; injection e with e; omega
  exact (hg2.block k (Nat.lt_of_lt_of_le hk hg1.size) hne).trans (hg1.block k hk (by simp))
theorem grown_noneR {w w1 : World} (row : Option Nat) (h : w.grownBy w1 none) : w.grownBy w1 row := ⟨h.os, h.tape, h.output, h.size, fun k hk _ => h.block k hk (by simp)⟩
end Go.Proofs.Ytlkldehapkgdaaa

/- Instructions of R64 by the page's rows, as plain functions on integers: which there are, their bytes, and back. No Go here. -/
namespace Go.Proofs.Ytlkldehapkgdaaa
set_option linter.unusedVariables false

/-- an instruction's nine numbers -/
structure InV where
  op : Int
  a : Int
  b : Int
  c : Int
  k : Int
  sub : Int
  scale : Int
  imm : Int
  label : Int

namespace Rc
/-- which fields a code uses: the page's letters -/
def fld (op : Int) : ByteArray :=
  if op = 1 ∨ op = 2 ∨ op = 20 ∨ op = 21 then ⟨#[65, 73]⟩ else if op = 3 ∨ op = 26 then ⟨#[65, 66]⟩ else if op = 4 then ⟨#[65, 66, 67, 75, 83]⟩
  else if op = 7 ∨ op = 8 then ⟨#[65, 66, 75, 83]⟩ else if op = 9 then ⟨#[65, 66, 73]⟩ else if op = 11 ∨ op = 13 then ⟨#[65, 66, 75, 73]⟩
  else if op = 15 then ⟨#[65, 66, 67, 73]⟩ else if op = 19 ∨ op = 23 ∨ op = 25 ∨ op = 29 then ⟨#[73]⟩ else if op = 27 ∨ op = 28 then ⟨#[65]⟩ else if op = 24 then ⟨#[45]⟩ else ⟨#[]⟩
def hasS (s : ByteArray) (c : Int) : Bool := s.data.toList.any (fun b => (b.toNat : Int) == c)
def regB (n : Int) : Bool := decide (0 ≤ n) && decide (n < 16)
def smallB (n : Int) : Bool := decide (-2147483648 ≤ n) && decide (n < 2147483648)
def kindB (v : InV) : Bool :=
  if v.op = 4 then Wd.hasBinB v.sub v.k else if v.op = 7 then Wd.hasUnB v.sub v.k else if v.op = 8 then Wd.numB v.sub && Wd.numB v.k else if v.op = 11 ∨ v.op = 13 then Wd.wordB v.k
  else if v.op = 15 then decide (0 ≤ v.imm) && decide (v.imm < 16) else if v.op = 25 then decide (0 ≤ v.imm) else if v.op = 29 then decide (0 < v.imm) else true
/-- is it an instruction of R64? -/
def mayB (v : InV) : Bool :=
  !(fld v.op).data.isEmpty && v.scale == 0 && v.label == 0 && regB v.a && regB v.b && regB v.c && smallB v.imm &&
  (hasS (fld v.op) 65 || v.a == 0) && (hasS (fld v.op) 66 || v.b == 0) && (hasS (fld v.op) 67 || v.c == 0) && (hasS (fld v.op) 75 || v.k == 0) && (hasS (fld v.op) 83 || v.sub == 0) && (hasS (fld v.op) 73 || v.imm == 0) && kindB v
def cc (v : InV) : Int := if v.op = 11 ∨ v.op = 13 then v.k else v.c
def nn (v : InV) : Int := if v.op = 4 ∨ v.op = 7 ∨ v.op = 8 then v.k + 256 * v.sub else v.imm
/-- its bytes -/
def enc (v : InV) (i : Nat) : Int :=
  if i = 0 then v.op % 256 else if i = 1 then v.a % 256 else if i = 2 then v.b % 256 else if i = 3 then cc v % 256 else Mm.by8 (nn v % 4294967296) (i - 4)
/-- a number of 32 bits, signed -/
def s32 (u : Int) : Int := (u + 2147483648) % 4294967296 - 2147483648
/-- what eight bytes say, if that is an instruction -/
def rd (g : Nat → Int) : InV :=
  let n := s32 (Mm.ld g 4 4)
  if g 0 = 4 ∨ g 0 = 7 ∨ g 0 = 8 then ⟨g 0, g 1, g 2, g 3, n % 256, n / 256, 0, 0, 0⟩
  else if g 0 = 11 ∨ g 0 = 13 then ⟨g 0, g 1, g 2, 0, g 3, 0, 0, n, 0⟩ else ⟨g 0, g 1, g 2, g 3, 0, 0, 0, n, 0⟩
def wideB (g : Nat → Int) : Bool := (g 0 == 4 || g 0 == 7 || g 0 == 8) && (decide (s32 (Mm.ld g 4 4) < 0) || decide (65536 ≤ s32 (Mm.ld g 4 4)))
def okB (g : Nat → Int) : Bool := !wideB g && mayB (rd g)

theorem codes (v : InV) (h : mayB v = true) : v.op = 1 ∨ v.op = 2 ∨ v.op = 3 ∨ v.op = 4 ∨ v.op = 7 ∨ v.op = 8 ∨ v.op = 9 ∨ v.op = 11 ∨ v.op = 13 ∨ v.op = 15 ∨ v.op = 19 ∨ v.op = 20 ∨ v.op = 21 ∨ v.op = 23 ∨ v.op = 24 ∨ v.op = 25 ∨ v.op = 26 ∨ v.op = 27 ∨ v.op = 28 ∨ v.op = 29 := by
  by_cases hh : (v.op = 1 ∨ v.op = 2 ∨ v.op = 3 ∨ v.op = 4 ∨ v.op = 7 ∨ v.op = 8 ∨ v.op = 9 ∨ v.op = 11 ∨ v.op = 13 ∨ v.op = 15 ∨ v.op = 19 ∨ v.op = 20 ∨ v.op = 21 ∨ v.op = 23 ∨ v.op = 24 ∨ v.op = 25 ∨ v.op = 26 ∨ v.op = 27 ∨ v.op = 28 ∨ v.op = 29)
  · exact hh
  · exfalso
    have e : fld v.op = ⟨#[]⟩ := by
      unfold fld
      rw [if_neg (by omega), if_neg (by omega), if_neg (by omega), if_neg (by omega), if_neg (by omega), if_neg (by omega), if_neg (by omega), if_neg (by omega), if_neg (by omega), if_neg (by omega)]
    unfold mayB at h
    rw [e] at h
    simp at h

theorem ld_enc (v : InV) : Mm.ld (enc v) 4 4 = nn v % 4294967296 := by
  have h : Mm.ld (enc v) 4 4 = Mm.ld (Mm.by8 (nn v % 4294967296)) 0 4 := Mm.ld_congr fun i hi => by
    unfold enc
    rw [if_neg (by omega), if_neg (by omega), if_neg (by omega), if_neg (by omega)]
    congr 1; omega
  rw [h, Mm.ld_by8]
  omega
theorem s32_mod (n : Int) (h1 : -2147483648 ≤ n) (h2 : n < 2147483648) : s32 (n % 4294967296) = n := by unfold s32; omega

/-- the ranges of an instruction's numbers -/
structure Rng (v : InV) : Prop where
  sc : v.scale = 0
  lb : v.label = 0
  a1 : 0 ≤ v.a
  a2 : v.a < 16
  b1 : 0 ≤ v.b
  b2 : v.b < 16
  c1 : 0 ≤ v.c
  c2 : v.c < 16
  i1 : -2147483648 ≤ v.imm
  i2 : v.imm < 2147483648
  u0 : hasS (fld v.op) 65 = true ∨ v.a = 0
  u1 : hasS (fld v.op) 66 = true ∨ v.b = 0
  u2 : hasS (fld v.op) 67 = true ∨ v.c = 0
  u3 : hasS (fld v.op) 75 = true ∨ v.k = 0
  u4 : hasS (fld v.op) 83 = true ∨ v.sub = 0
  u5 : hasS (fld v.op) 73 = true ∨ v.imm = 0
  kd : kindB v = true
theorem rng {v : InV} (h : mayB v = true) : Rng v := by
  unfold mayB regB smallB at h
  simp only [Bool.and_eq_true, Bool.or_eq_true, beq_iff_eq, decide_eq_true_eq] at h
  obtain ⟨⟨⟨⟨⟨⟨⟨⟨⟨⟨⟨⟨⟨h0, h1⟩, h2⟩, h3⟩, h4⟩, h5⟩, h6⟩, h7⟩, h8⟩, h9⟩, h10⟩, h11⟩, h12⟩, h13⟩ := h
  exact ⟨h1, h2, h3.1, h3.2, h4.1, h4.2, h5.1, h5.2, h6.1, h6.2, h7, h8, h9, h10, h11, h12, h13⟩

theorem bin_rng {op k : Int} (h : Wd.hasBinB op k = true) : 1 ≤ op ∧ op ≤ 16 ∧ 1 ≤ k ∧ k ≤ 11 := by
  unfold Wd.hasBinB Wd.intB Wd.cmpB at h; simp at h; omega
theorem un_rng {op k : Int} (h : Wd.hasUnB op k = true) : 1 ≤ op ∧ op ≤ 3 ∧ 1 ≤ k ∧ k ≤ 11 := by
  unfold Wd.hasUnB Wd.numB Wd.intB at h; simp at h; omega

theorem conv_rng {f t : Int} (h : (Wd.numB f && Wd.numB t) = true) : 2 ≤ f ∧ f ≤ 10 ∧ 2 ≤ t ∧ t ≤ 10 := by
  unfold Wd.numB at h; simp at h; omega
theorem word_rng {k : Int} (h : Wd.wordB k = true) : 1 ≤ k ∧ k ≤ 11 := by unfold Wd.wordB at h; simpa using h

/-- its bytes say it -/
theorem back (v : InV) (h : mayB v = true) : rd (enc v) = v ∧ wideB (enc v) = false := by
  have r := rng h
  have hc := codes v h
  have e0 : enc v 0 = v.op := by show v.op % 256 = _; omega
  have e1 : enc v 1 = v.a := by show v.a % 256 = _; have := r.a1; have := r.a2; omega
  have e2 : enc v 2 = v.b := by show v.b % 256 = _; have := r.b1; have := r.b2; omega
  have e3 : enc v 3 = cc v % 256 := rfl
  obtain ⟨op, a, b, c, k, sub, sc, imm, lb⟩ := v
  obtain ⟨h1, h2, a1, a2, b1, b2, c1, c2, i1, i2, u0, u1, u2, u3, u4, u5, kd⟩ := r
  dsimp only at *
  subst h1 h2
  rcases hc with rfl | rfl | rfl | rfl | rfl | rfl | rfl | rfl | rfl | rfl | rfl | rfl | rfl | rfl | rfl | rfl | rfl | rfl | rfl | rfl
  all_goals try (replace u0 := u0.resolve_left (by decide))
  all_goals try (replace u1 := u1.resolve_left (by decide))
  all_goals try (replace u2 := u2.resolve_left (by decide))
  all_goals try (replace u3 := u3.resolve_left (by decide))
  all_goals try (replace u4 := u4.resolve_left (by decide))
  all_goals try (replace u5 := u5.resolve_left (by decide))
  all_goals try (replace kd := bin_rng (show Wd.hasBinB sub k = true from kd))
  all_goals try (replace kd := un_rng (show Wd.hasUnB sub k = true from kd))
  all_goals try (replace kd := conv_rng (show (Wd.numB sub && Wd.numB k) = true from kd))
  all_goals try (replace kd := word_rng (show Wd.wordB k = true from kd))
  all_goals
    unfold rd wideB
    rw [e0, e1, e2, e3, ld_enc]
    simp only [nn, cc, Int.reduceEq, or_self, or_false, or_true, if_true, if_false]
    rw [s32_mod _ (by omega) (by omega)]
    refine ⟨?_, ?_⟩
    · simp only [InV.mk.injEq, true_and, and_true]; omega
    · first | rfl | (simp; done) | (simp; omega)
theorem rd_congr {g g' : Nat → Int} (h : ∀ i, i < 8 → g i = g' i) : rd g = rd g' ∧ okB g = okB g' := by
  have l : Mm.ld g 4 4 = Mm.ld g' 4 4 := Mm.ld_congr fun i hi => h _ (by omega)
  have r : rd g = rd g' := by unfold rd; rw [l, h 0 (by omega), h 1 (by omega), h 2 (by omega), h 3 (by omega)]
  refine ⟨r, ?_⟩
  unfold okB wideB
  rw [r, l, h 0 (by omega)]
/-- no two instructions have the same bytes -/
theorem inj {u v : InV} (hu : mayB u = true) (hv : mayB v = true) (h : ∀ i, i < 8 → enc u i = enc v i) : u = v := by
  rw [← (back u hu).1, ← (back v hv).1, (rd_congr h).1]
end Rc
end Go.Proofs.Ytlkldehapkgdaaa

/- Small functions of risc, gantryref3 and gantrylaw3: contracts. -/
namespace Go.Proofs.Ytlkldehapkgdaaa
open Go.RowKit
set_option linter.unusedVariables false

end Go.Proofs.Ytlkldehapkgdaaa

/- has, unused, part, fits: contracts. -/
namespace Go.Proofs.Ytlkldehapkgdaaa
open Go.RowKit
set_option linter.unusedVariables false

namespace Mm
end Mm
namespace Rc
end Rc

end Go.Proofs.Ytlkldehapkgdaaa

/- Forms of R64's instructions, as plain numbers and as values; what the walks of this layer share. -/
namespace Go.Proofs.Ytlkldehapkgdaaa
open Go.RowKit
set_option linter.unusedVariables false

namespace Rc
end Rc
namespace Rc
theorem ops (o : Int) : o = 1 ∨ o = 2 ∨ o = 20 ∨ o = 21 ∨ o = 3 ∨ o = 26 ∨ o = 4 ∨ o = 7 ∨ o = 8 ∨ o = 9 ∨ o = 11 ∨ o = 13 ∨ o = 15 ∨ o = 19 ∨ o = 23 ∨ o = 25 ∨ o = 29 ∨ o = 27 ∨ o = 28 ∨ o = 24 ∨ ((o == 1) = false ∧ (o == 2) = false ∧ (o == 20) = false ∧ (o == 21) = false ∧ (o == 3) = false ∧ (o == 26) = false ∧ (o == 4) = false ∧ (o == 7) = false ∧ (o == 8) = false ∧ (o == 9) = false ∧ (o == 11) = false ∧ (o == 13) = false ∧ (o == 15) = false ∧ (o == 19) = false ∧ (o == 23) = false ∧ (o == 25) = false ∧ (o == 29) = false ∧ (o == 27) = false ∧ (o == 28) = false ∧ (o == 24) = false) := by
  by_cases h : (o = 1 ∨ o = 2 ∨ o = 20 ∨ o = 21 ∨ o = 3 ∨ o = 26 ∨ o = 4 ∨ o = 7 ∨ o = 8 ∨ o = 9 ∨ o = 11 ∨ o = 13 ∨ o = 15 ∨ o = 19 ∨ o = 23 ∨ o = 25 ∨ o = 29 ∨ o = 27 ∨ o = 28 ∨ o = 24)
  · omega
  · simp only [not_or] at h
    simp only [beq_eq_false_iff_ne]
    right; simp only [ne_eq]; omega
end Rc
theorem grown_drew {w w' : World} {row : Option Nat} (h : w.grownBy w' row) : w.grownBy w'.drew row := grown_trans h ⟨rfl, rfl, rfl, Nat.le_refl _, fun _ _ _ => rfl⟩
theorem tail_drew {P : Program} {id : Nat} {Q : Exit → Act → World → Prop} {a : Act} {w : World} {l : List Oper} (n : Nat) (hm : P.follows .mixedOrders = true) (hB : Region.lexTailB .any l.toArray n = true)
    (h : wpStill P l.toArray w.drew (fun a' => wpList P l.toArray Q (l.drop n) a' w.drew) (l.take n) a) : (Code.region id l.toArray true).wp P Q a w := wp_region_still_tail n hm hB h
theorem ga {w w1 : World} (h : w.grownBy w1 none) (o : Obj) : w.grownBy (w1.alloc o) none := grown_trans h (World.grownBy_alloc _ _ _)
theorem gs {w w1 : World} (h : w.grownBy w1 none) {b : Nat} (i : Nat) (v : Value) (hb : w.heap.size ≤ b) : w.grownBy (w1.setCell ⟨b, i, none⟩ v) none := grown_two h (grown_setCell _ _ _ _) hb
end Go.Proofs.Ytlkldehapkgdaaa

/- A region that draws its order, whose head only reads and whose tail is forced: one walk by the cheap step. -/
namespace Go.Proofs.Ytlkldehapkgdaaa
open Go.RowKit
set_option linter.unusedVariables false

theorem still_of_quiet {P : Program} {ops : Array Oper} {w : World} {Q : Act → Prop} : ∀ (l : List Oper) (a : Act), wpQuiet P ops (fun w' => w' = w) Q l a → wpStill P ops w Q l a
  | [], _, h => h
  | o :: rest, a, h => by
    unfold wpQuiet at h
    unfold wpStill
    split
    · rename_i hw
      rw [if_pos hw] at h
      obtain ⟨v, h1, h2⟩ := h
      have h3 := h1 w rfl
      have h4 := still_of_quiet rest _ h2
      unfold Oper.quietAt at h3
      unfold Oper.still
      generalize (execOp a.eval o).run P w = r at h3
      match r, h3 with
      | .ok (.value u) w', h3 => obtain ⟨e1, e2⟩ := h3; exact ⟨e1, by rw [e2]; exact h4⟩
      | .ok .skip w', h3 => obtain ⟨e1, e2⟩ := h3; exact ⟨e1, by rw [← e2]; exact h4⟩
      | .ok (.enter f args) w', h3 => obtain ⟨e1, e2⟩ := h3; exact ⟨e1, v, e2, h4⟩
    · rename_i hw
      rw [if_neg hw] at h
      exact still_of_quiet rest _ h

theorem tail_quiet {P : Program} {id : Nat} {Q : Exit → Act → World → Prop} {a : Act} {w : World} {l : List Oper} (n : Nat) (hm : P.follows .mixedOrders = true) (hB : Region.lexTailB .any l.toArray n = true)
    (h : wpQuiet P l.toArray (fun w' => w' = w.drew) (fun a' => wpList P l.toArray Q (l.drop n) a' w.drew) (l.take n) a) : (Code.region id l.toArray true).wp P Q a w :=
  tail_drew n hm hB (still_of_quiet _ _ h)

/-- a world that has grown out of W -/
structure Gw (W : World) where
  w : World
  h : W.grownBy w none

/-- A region that draws its order, whose operations read what stood in W or call what only makes new memory: one walk of the lexical order. -/
theorem region_grown {P : Program} {id : Nat} {Q : Exit → Act → World → Prop} {a : Act} {w : World} {l : List Oper} (hm : P.follows .mixedOrders = true) (hB : Region.lexB .any l.toArray = true)
    (h : wpQuiet P l.toArray (fun w' => ∃ x : Gw w, w' = x.w) (fun a' => ∀ w', (∃ x : Gw w, w' = x.w) → Q .normal a' w') l a) : (Code.region id l.toArray true).wp P Q a w :=
  wp_region_quiet (C := fun w' => ∃ x : Gw w, w' = x.w) hm hB ⟨⟨w.drew, grown_drew (World.grownBy.refl _ _)⟩, rfl⟩ (by simpa using h)
theorem Gw.call {P : Program} {f : FuncId} {args : Array Value} {W : World} {x : Gw W} {v : Value}
    (h : Calls P f args x.w fun e w' => e = .returned v ∧ x.w.grownBy w' none) : Calls P f args x.w fun e w'' => e = .returned v ∧ ∃ y : Gw W, w'' = y.w :=
  h.mono fun _ w'' ⟨he, hg⟩ => ⟨he, ⟨w'', grown_trans x.h hg⟩, rfl⟩

end Go.Proofs.Ytlkldehapkgdaaa

/- A region that draws its order: its head is quiet over a class of worlds and its tail forced; or one of its calls panics, whatever came ahead of it. -/
namespace Go.Proofs.Ytlkldehapkgdaaa
open Go.RowKit
set_option linter.unusedVariables false

section
variable {P : Program} {ops : Array Oper} {md : Region.Mode} {C : World → Prop}

/-- from here on: so many operations, each of them one of the first n, each quiet; then L -/
def headQ (P : Program) (md : Region.Mode) (ops : Array Oper) (C : World → Prop) (n : Nat) (L : Array Bool → Act → Prop) : Nat → Array Bool → Act → Prop
  | 0, listed, a => L listed a
  | f + 1, listed, a => Region.ready md ops listed ≠ [] ∧ ∀ i ∈ Region.ready md ops listed, i < n ∧ qOp P ops C i (headQ P md ops C n L f (listed.setIfInBounds i true)) a

theorem any_of_headQ {n g : Nat} {L : Array Bool → Act → Prop} {Q' : Exit → Act → World → Prop} (hL : ∀ listed a w, C w → L listed a → wpAny P md ops Q' g listed a w) (f : Nat) :
    ∀ (listed : Array Bool) (a : Act) (w : World), C w → headQ P md ops C n L f listed a → wpAny P md ops Q' (f + g) listed a w := by
  induction f with
  | zero => intro listed a w hw h; rw [Nat.zero_add]; exact hL _ _ _ hw h
  | succ f ih =>
    intro listed a w hw h
    rw [Nat.add_right_comm]
    exact ⟨fun h0 => absurd h0 h.1, fun i hi => wpOp_of_qOp hw (fun a' w' hw' h' => ih _ a' w' hw' h') (h.2 i hi).2⟩

theorem headQ_take {n i : Nat} {oi : Oper} {v : Value} {L : Array Bool → Act → Prop} (hi : ops[i]? = some oi) (hsel : ∀ (j : Nat) (o : Oper) cs b, ops[j]? = some o → o.op ≠ .select cs b)
    (hs : Region.sinkB md ops n = true) (hc : Region.chainB md ops n = true) (hn : n < ops.size) (hin : i < n) (hdone : ∀ listed a, L listed a → ∀ j ∈ Region.ready md ops listed, n ≤ j) (f : Nat) :
    ∀ (listed : Array Bool) (a : Act), HeadInv md ops n listed →
      (∀ j oj, ops[j]? = some oj → j ≠ i → listed.getD j true = false → (∀ e ∈ oj.after, Region.binds md e = true → e.on ≠ i) → oi.apart ops oj = true) →
      i ∈ Region.ready md ops listed → YieldsIn P ops C oi v a →
      headQ P md ops C n L f (listed.setIfInBounds i true) (a.put oi.dst v) → headQ P md ops C n L (f + 1) listed a := by
  induction f with
  | zero =>
    intro listed a inv hfree hr hy H
    refine ⟨List.ne_nil_of_mem hr, fun j hj => ?_⟩
    have hjn : j < n := Nat.lt_of_not_le fun h => tail_waits hs hc hn inv _ i rfl hin (mem_ready.1 hr).1 j h hj
    by_cases hji : j = i
    · subst hji; exact ⟨hjn, hy.qOp hi H⟩
    · exact absurd (hdone _ _ H j (ready_mono hj hji)) (by omega)
  | succ f ih =>
    intro listed a inv hfree hr hy H
    refine ⟨List.ne_nil_of_mem hr, fun j hj => ?_⟩
    have hun := (mem_ready.1 hr).1
    have hjn : j < n := Nat.lt_of_not_le fun h => tail_waits hs hc hn inv _ i rfl hin hun j h hj
    refine ⟨hjn, ?_⟩
    by_cases hji : j = i
    · subst hji; exact hy.qOp hi H
    · obtain ⟨hjun, oj, hoj, hall⟩ := mem_ready.1 hj
      have hnot : ∀ e ∈ oj.after, Region.binds md e = true → e.on ≠ i := fun e he hb heq => by
        have h1 := hall e he hb
        rw [heq, getD_both hun] at h1
        cases h1
      have h2 := qOp_put hoj (hfree j oj hoj hji hjun hnot) (fun cs b => hsel i oi cs b hi) (fun cs b => hsel j oj cs b hoj) hy (H.2 j (ready_mono hj hji)).2
      refine qOp_mono (fun a' h3 => ih (listed.setIfInBounds j true) a' (inv.set hj hjn) (fun k ok hk hki hun' hno => ?_) (ready_mono hr (Ne.symm hji)) h3.1 ?_) h2
      · refine hfree k ok hk hki ?_ hno
        by_cases hjk : j = k
        · subst hjk; exact hjun
        · rw [getD_set_ne true hjk] at hun'; exact hun'
      · rw [Array.setIfInBounds_comm _ _ hji]
        exact h3.2

theorem headQ_lex {n g : Nat} {Lq : Act → Prop} (hsel : Region.noSelect ops = true) (hs : Region.sinkB md ops n = true) (hc : Region.chainB md ops n = true) (hn : n < ops.size) :
    ∀ (l : List Oper) (k : Nat) (listed : Array Bool) (a : Act), (∀ j, j < l.length → l[j]? = ops[k + j]?) → k + l.length = n → HeadInv md ops n listed →
    Region.lexHead md ops g l.length k listed = true → wpQuiet P ops C Lq l a →
    headQ P md ops C n (fun listed' a' => Region.seqB md ops g n listed' = true ∧ Lq a') l.length listed a := by
  intro l
  induction l with
  | nil =>
    intro k listed a _ hk _ hB h
    obtain rfl : k = n := by simpa using hk
    exact ⟨by simpa [Region.lexHead] using hB, h⟩
  | cons o l ih =>
    intro k listed a hl hk inv hB h
    have h0 : ops[k]? = some o := by simpa using (hl 0 (by simp)).symm
    simp only [List.length_cons, Region.lexHead, Bool.and_eq_true] at hB
    obtain ⟨⟨hr, hf⟩, hB'⟩ := hB
    simp only [List.length_cons] at hk
    have hr' : k ∈ Region.ready md ops listed := by simpa using hr
    obtain ⟨v, hy, hK⟩ := yieldsIn_of_qOp (K := wpQuiet P ops C Lq l) (C := C) h0 (by unfold qOp; simp only [h0]; exact h)
    refine headQ_take h0 (Region.noSelect_spec hsel) hs hc hn (by omega) (fun listed' a' hL => seqB_ready hL.1) l.length listed a inv (Region.free_spec h0 hf) hr' hy ?_
    exact ih (k + 1) _ _ (fun j hj => by have := hl (j + 1) (by simp; omega); simpa [Nat.add_assoc, Nat.add_comm 1 j] using this) (by omega) (inv.set hr' (by omega)) hB' hK

/-- the head quiet over a class, the tail forced -/
theorem tail_class {id : Nat} {Q : Exit → Act → World → Prop} {a : Act} {w : World} {l : List Oper} (C : World → Prop) (n : Nat) (hm : P.follows .mixedOrders = true) (hB : Region.lexTailB .any l.toArray n = true) (hC : C w.drew)
    (h : wpQuiet P l.toArray C (fun a' => ∀ w', C w' → wpList P l.toArray Q (l.drop n) a' w') (l.take n) a) : (Code.region id l.toArray true).wp P Q a w := by
  simp only [Region.lexTailB, Bool.and_eq_true, decide_eq_true_eq] at hB
  obtain ⟨⟨⟨⟨hsel, hn⟩, hs⟩, hc⟩, hlex⟩ := hB
  have hn' : n < l.length := by simpa using hn
  have htl : (l.take n).length = n := by simp; omega
  have hdl : (l.drop n).length = l.toArray.size - n := by simp
  have inv0 : HeadInv .any l.toArray n (Array.replicate l.toArray.size false) :=
    ⟨by simp, fun j oj _ hl => (by rw [getD_replicate_false] at hl; cases hl), fun t _ ht => getD_in (by simpa using ht) (getD_replicate_false _ _)⟩
  have H := headQ_lex (md := .any) (g := l.toArray.size - n) hsel hs hc hn (l.take n) 0 _ a (fun j hj => by
    have hj' : j < n := by rw [htl] at hj; exact hj
    simp [hj']) (by simpa using htl) inv0 (by rw [htl]; exact hlex) h
  refine wp_region_any hm ?_
  have T := any_of_headQ (Q' := Q) (g := l.toArray.size - n) (fun listed a' w' hw' hL => by
    have := wpAny_of_seq (md := .any) (Q' := Q) (l.drop n) n listed a' w' (fun j => by simp [List.getElem?_drop]) (by rw [hdl]; exact hL.1) (hL.2 w' hw')
    rwa [hdl] at this) _ _ _ _ hC H
  rw [htl, show n + (l.toArray.size - n) = l.toArray.size by omega] at T
  exact T

/-- in this state, in every world of the class, the operation is a call that panics -/
def PanicsIn (P : Program) (ops : Array Oper) (C : World → Prop) (o : Oper) (Z : List PanicEntry → World → Prop) (a : Act) : Prop :=
  Region.wanted o (yielded ops a.tmps) = true ∧ ∀ w, C w → ∃ f args, (execOp a.eval o).run P w = .ok (.enter f args) w ∧ Calls P f args w fun e w' => ∃ ch, e = .panicked ch ∧ Z ch w'

theorem put_defers (a : Act) (d : Option Tmp) (v : Value) : (a.put d v).defers = a.defers := by cases d <;> rfl

theorem PanicsIn.wpOp {p : Nat} {o : Oper} {Z : List PanicEntry → World → Prop} {a : Act} {w : World} {K : Act → World → Prop} {Q : Exit → Act → World → Prop} (ho : ops[p]? = some o) (hw : C w) (h : PanicsIn P ops C o Z a) (hQ : ∀ ch w', Z ch w' → Q (.panic ch) a w') : wpOp P ops Q p K a w := by
  obtain ⟨h1, h2⟩ := h
  obtain ⟨f, args, h3, h4⟩ := h2 w hw
  unfold Go.wpOp
  simp only [ho, h1, if_true]
  refine .inl ?_
  unfold Oper.wp
  rw [h3, Oper.upon_enter]
  refine h4.mono ?_
  rintro e w' ⟨ch, rfl, hz⟩
  exact hQ ch w' hz

end
end Go.Proofs.Ytlkldehapkgdaaa

/- Which blocks are turned; numbers that lie in a row; numbers of the call's own. -/
namespace Go.Proofs.Ytlkldehapkgdaaa
open Go.RowKit
set_option linter.unusedVariables false

/-- only blocks of l are turned, and new ones made -/
structure Ch (w w' : World) (l : List Nat) : Prop where
  os : w'.os = w.os
  tape : w'.tape = w.tape
  output : w'.output = w.output
  size : w.heap.size ≤ w'.heap.size
  block : ∀ k, k < w.heap.size → k ∉ l → w'.heap[k]? = w.heap[k]?
theorem Ch.refl (w : World) (l : List Nat) : Ch w w l := ⟨rfl, rfl, rfl, Nat.le_refl _, fun _ _ _ => rfl⟩
theorem Ch.trans {w w1 w2 : World} {l : List Nat} (h1 : Ch w w1 l) (h2 : Ch w1 w2 l) : Ch w w2 l :=
  ⟨h2.os.trans h1.os, h2.tape.trans h1.tape, h2.output.trans h1.output, Nat.le_trans h1.size h2.size, fun k hk hl => (h2.block k (Nat.lt_of_lt_of_le hk h1.size) hl).trans (h1.block k hk hl)⟩
theorem Ch.of {w w' : World} {l : List Nat} (h : w.grownBy w' none) : Ch w w' l := ⟨h.os, h.tape, h.output, h.size, fun k hk _ => h.block k hk (by simp)⟩
theorem Ch.one {w w' : World} {b : Nat} {l : List Nat} (h : w.grownBy w' (some b)) (hb : b ∈ l) : Ch w w' l := ⟨h.os, h.tape, h.output, h.size, fun k hk hl => h.block k hk (by intro e; injection e with e; subst e; exact hl hb)⟩
theorem Ch.mono {w w' : World} {l l' : List Nat} (h : Ch w w' l) (hl : ∀ k, k < w.heap.size → k ∈ l → k ∈ l') : Ch w w' l' := ⟨h.os, h.tape, h.output, h.size, fun k hk hn => h.block k hk (fun hm => hn (hl k hk hm))⟩
theorem Ch.nil {w w' : World} {l : List Nat} (h : Ch w w' l) (hl : ∀ k, k ∈ l → w.heap.size ≤ k) : w.grownBy w' none := ⟨h.os, h.tape, h.output, h.size, fun k hk _ => h.block k hk (fun hm => by have := hl k hm; omega)⟩
theorem Ch.below {w w' : World} {l : List Nat} {N : Nat} (h : Ch w w' l) (hN : N ≤ w.heap.size) (hl : ∀ k, k ∈ l → N ≤ k) : Below N w w' := ⟨h.os, h.tape, h.output, h.size, fun k hk => h.block k (by omega) (fun hm => by have := hl k hm; omega)⟩
theorem Ch.new {w w1 w2 : World} {l : List Nat} (h1 : Ch w w1 l) {b : Nat} (hb : w.heap.size ≤ b) (h2 : w1.grownBy w2 (some b)) : Ch w w2 l :=
  ⟨h2.os.trans h1.os, h2.tape.trans h1.tape, h2.output.trans h1.output, Nat.le_trans h1.size h2.size, fun k hk hl => (h2.block k (Nat.lt_of_lt_of_le hk h1.size) (by intro e; injection e with e; omega)).trans (h1.block k hk hl)⟩
theorem Ch.cell {w w' : World} {l : List Nat} (h : Ch w w' l) {b o : Nat} {v : Value} (hc : w.cell? ⟨b, o, none⟩ = some v) (hb : b ∉ l) : w'.cell? ⟨b, o, none⟩ = some v := by
  have hlt := World.block_lt_of_cell? _ _ hc
  rw [← hc]
  exact World.cell?_of_block (h.block b hlt hb)
/-- numbers that lie in a row, below block N -/
structure NumIn (N : Nat) (w : World) (a : Option Addr) (n c : Nat) (M : Nat → Int) : Prop where
  le : n ≤ c
  max : c ≤ maxLen
  lie : n = 0 ∨ ∃ b off, a = some ⟨b, off, none⟩ ∧ b < N ∧ ∀ i, i < n → w.cell? ⟨b, off + i, none⟩ = some (.int .i64 (M i))
theorem NumIn.ch {N : Nat} {w w' : World} {a : Option Addr} {n c : Nat} {M : Nat → Int} {l : List Nat} (h : NumIn N w a n c M) (hg : Ch w w' l) (hl : ∀ k, k ∈ l → N ≤ k) : NumIn N w' a n c M :=
  ⟨h.le, h.max, by
    rcases h.lie with h0 | ⟨b, off, e, hb, hi⟩
    · exact .inl h0
    · exact .inr ⟨b, off, e, hb, fun i hi' => hg.cell (hi i hi') (fun hm => by have := hl b hm; omega)⟩⟩
/-- numbers of the call's own -/
def OwnN (w : World) (base : Nat) (v : Value) (n : Nat) (g : Nat → Int) : Prop := w.ownsRow base 3 1 v n ((List.range n).map fun i => Value.int .i64 (g i))
/-- .. as a list -/
def OwnZ (w : World) (base : Nat) (v : Value) (l : List Int) : Prop := w.ownsRow base 3 1 v l.length (l.map (Value.int .i64))
theorem OwnZ.n {w : World} {base : Nat} {v : Value} {l : List Int} (h : OwnZ w base v l) : OwnN w base v l.length (fun i => l.getD i 0) := by
  unfold OwnN
  have e : (List.range l.length).map (fun i => Value.int .i64 (l.getD i 0)) = l.map (Value.int .i64) := by
    refine List.ext_getElem (by simp) fun i h1 h2 => ?_
    simp at h1
    simp [List.getD_eq_getElem?_getD, List.getElem?_eq_getElem h1]
  rw [e]
  exact h
theorem OwnN.z {w : World} {base n : Nat} {v : Value} {g : Nat → Int} (h : OwnN w base v n g) : OwnZ w base v ((List.range n).map g) := by
  unfold OwnZ
  rw [List.length_map, List.length_range, List.map_map]
  exact h
theorem OwnN.congr {w : World} {base n : Nat} {v : Value} {g g' : Nat → Int} (h : OwnN w base v n g) (e : ∀ i, i < n → g i = g' i) : OwnN w base v n g' := by
  unfold OwnN at h ⊢
  rw [show (List.range n).map (fun i => Value.int .i64 (g' i)) = (List.range n).map (fun i => Value.int .i64 (g i)) from List.map_congr_left fun i hi => by rw [e i (List.mem_range.1 hi)]]
  exact h
theorem OwnN.low {w : World} {base base' n : Nat} {v : Value} {g : Nat → Int} (h : OwnN w base v n g) (hb : base' ≤ base) : OwnN w base' v n g := World.ownsRow.mono h hb
theorem OwnZ.low {w : World} {base base' : Nat} {v : Value} {l : List Int} (h : OwnZ w base v l) (hb : base' ≤ base) : OwnZ w base' v l := World.ownsRow.mono h hb
theorem ownsRow_ch {w w' : World} {l : List Nat} {base : Nat} {e : TypeId} {size n : Nat} {v : Value} {xs : List Value} (h : w.ownsRow base e size v n xs) (hg : Ch w w' l) (hne : ∀ k, v.ownBlock = some k → k ∉ l) : w'.ownsRow base e size v n xs := by
  refine ⟨h.1, ?_⟩
  rcases h.2 with h0 | ⟨g, cap, cur, e1, e2, e3, e4⟩
  · exact .inl h0
  · have hlt : g < w.heap.size := (World.ownsRow.lt h g (by rw [e1]; rfl)).2
    exact .inr ⟨g, cap, cur, e1, e2, (hg.block g hlt (hne g (by rw [e1]; rfl))).trans e3, e4⟩
theorem OwnN.ch {w w' : World} {l : List Nat} {base n : Nat} {v : Value} {g : Nat → Int} (h : OwnN w base v n g) (hg : Ch w w' l) (hne : ∀ k, v.ownBlock = some k → k ∉ l) : OwnN w' base v n g := ownsRow_ch h hg hne
theorem OwnZ.ch {w w' : World} {l : List Nat} {base : Nat} {v : Value} {z : List Int} (h : OwnZ w base v z) (hg : Ch w w' l) (hne : ∀ k, v.ownBlock = some k → k ∉ l) : OwnZ w' base v z := ownsRow_ch h hg hne
theorem OwnN.grow {w w' : World} {base n : Nat} {v : Value} {g : Nat → Int} (h : OwnN w base v n g) (hg : w.grownBy w' none) : OwnN w' base v n g := World.ownsRow.kept h hg (Classical.em _)
theorem OwnZ.grow {w w' : World} {base : Nat} {v : Value} {l : List Int} (h : OwnZ w base v l) (hg : w.grownBy w' none) : OwnZ w' base v l := World.ownsRow.kept h hg (Classical.em _)
theorem OwnN.base {w : World} {base n : Nat} {v : Value} {g : Nat → Int} (h : OwnN w base v n g) : ∀ k, v.ownBlock = some k → base ≤ k := fun k hk => (World.ownsRow.lt h k hk).1
theorem OwnZ.base {w : World} {base : Nat} {v : Value} {l : List Int} (h : OwnZ w base v l) : ∀ k, v.ownBlock = some k → base ≤ k := fun k hk => (World.ownsRow.lt h k hk).1
theorem OwnN.lt {w : World} {base n : Nat} {v : Value} {g : Nat → Int} (h : OwnN w base v n g) : ∀ k, v.ownBlock = some k → k < w.heap.size := fun k hk => (World.ownsRow.lt h k hk).2
theorem OwnZ.lt {w : World} {base : Nat} {v : Value} {l : List Int} (h : OwnZ w base v l) : ∀ k, v.ownBlock = some k → k < w.heap.size := fun k hk => (World.ownsRow.lt h k hk).2
theorem OwnN.slice {w : World} {base n : Nat} {v : Value} {g : Nat → Int} (h : OwnN w base v n g) : ∃ a c, v = .slice a n c ∧ n ≤ c ∧ c ≤ maxLen ∧ (0 < n → ∃ T, a = some ⟨T, 0, none⟩ ∧ base ≤ T ∧ T < w.heap.size) := by
  rcases h.2 with ⟨rfl, h0⟩ | ⟨T, c, cur, rfl, e2, e3, e4, e5, _⟩
  · exact ⟨none, 0, by rw [h0], by omega, Nat.zero_le _, fun h => by omega⟩
  · exact ⟨some ⟨T, 0, none⟩, c, rfl, e4, e5, fun _ => ⟨T, rfl, e2, (World.ownsRow.lt h T rfl).2⟩⟩
theorem OwnZ.slice {w : World} {base : Nat} {v : Value} {l : List Int} (h : OwnZ w base v l) : ∃ a c, v = .slice a l.length c ∧ l.length ≤ c ∧ c ≤ maxLen ∧ (0 < l.length → ∃ T, a = some ⟨T, 0, none⟩ ∧ base ≤ T ∧ T < w.heap.size) := h.n.slice
theorem OwnN.cell {w : World} {base n c T : Nat} {g : Nat → Int} (h : OwnN w base (.slice (some ⟨T, 0, none⟩) n c) n g) {i : Nat} (hi : i < n) : w.cell? ⟨T, i, none⟩ = some (.int .i64 (g i)) := by
  rw [World.ownsRow.cellAt h i (by omega), List.getElem?_map, List.getElem?_range hi]
  rfl
theorem OwnN.frozen {w : World} {base n c T : Nat} {g : Nat → Int} (h : OwnN w base (.slice (some ⟨T, 0, none⟩) n c) n g) (i : Nat) : w.frozen? ⟨T, i, none⟩ = false := World.ownsRow.frozenAt h i
def setF (g : Nat → Int) (i : Nat) (x : Int) : Nat → Int := fun k => if k = i then x else g k
theorem grown_set (w : World) (T i : Nat) (u : Value) : w.grownBy (w.setCell ⟨T, i, none⟩ u) (some T) := grown_setCell _ _ _ _
theorem OwnN.set {w : World} {base n c T : Nat} {g : Nat → Int} (h : OwnN w base (.slice (some ⟨T, 0, none⟩) n c) n g) {i : Nat} (hi : i < n) (x : Int) : OwnN (w.setCell ⟨T, i, none⟩ (.int .i64 x)) base (.slice (some ⟨T, 0, none⟩) n c) n (setF g i x) := by
  have := (World.ownsRow.stored h i (.int .i64 x)).1
  unfold OwnN
  rw [show (List.range n).map (fun k => Value.int .i64 (setF g i x k)) = ((List.range n).map fun k => Value.int .i64 (g k)).set i (.int .i64 x) from ?_]
  · exact this
  · refine List.ext_getElem (by simp) fun k h1 h2 => ?_
    simp at h1
    simp [setF, List.getElem_set]
    by_cases e : k = i
    · subst e; simp
    · simp [e, Ne.symm e]
theorem info_int : (Try.prog.info? 3).map (fun i => (i.zero, i.size, i.bytes)) = some (some (.int .i64 0), 1, 8) := by kernel_rfl
theorem NumIn.at {N : Nat} {w : World} {a : Option Addr} {n c : Nat} {M : Nat → Int} (h : NumIn N w a n c M) {i : Nat} (hi : i < n) : ∃ b off, a = some ⟨b, off, none⟩ ∧ b < N ∧ w.cell? ⟨b, off + i, none⟩ = some (.int .i64 (M i)) := by
  rcases h.lie with h0 | ⟨b, off, e, hb, hh⟩
  · omega
  · exact ⟨b, off, e, hb, hh i hi⟩
/-- numbers of one's own, appended to numbers of one's own -/
theorem wp_appZs {ops : Array Oper} {rest : List Oper} {o : Oper} {a : Act} {Q : Exit → Act → World → Prop} {W : World} (hgd : o.guard = none) (s x : Operand)
    (ho : o.op = .call { callee := .builtin .append, args := #[s, x], argTypes := #[25, 25] }) (base : Nat) (v u : Value) (l m : List Int) (b2 : Nat) (hs : a.eval s = v) (hown : OwnZ W base v l)
    (hx : a.eval x = u) (hsrc : OwnZ W b2 u m) (hl : l.length ≤ 2000000) (hm : m.length ≤ 2000000) (hb : base ≤ W.heap.size)
    (h : ∀ v' w', OwnZ w' base v' (l ++ m) → W.grownBy w' v.ownBlock → wpList Try.prog ops Q rest (a.put o.dst v') w') : wpList Try.prog ops Q (o :: rest) a W := by
  obtain ⟨i, hi, hz0, hz1, hz2⟩ := info_parts info_int
  rcases hsrc.2 with ⟨rfl, h0⟩ | ⟨T, c, cur, rfl, _⟩
  · have : m = [] := List.length_eq_zero_iff.1 h0
    subst this
    refine wpList_append_own_none hgd s x 25 ho base 3 i 1 Try.underlying25 hi v l.length (l.map (Value.int .i64)) hs hown hx ?_
    exact h v W (by rw [List.append_nil]; exact hown) (World.grownBy.refl _ _)
  · refine wpList_append_own _ hgd s x 25 ho base 3 i (.int .i64 0) 1 8 Try.underlying25 hi hz0 hz1 hz2 rfl (by decide) v l.length (l.map (Value.int .i64)) hs hown ⟨T, 0, none⟩ m.length c (m.map (Value.int .i64)) hx (by simp)
      (fun j y hj => World.ownsRow.cells hsrc rfl j y hj) (by intro y hy; obtain ⟨z, _, rfl⟩ := List.mem_map.mp hy; rfl) (by unfold maxLen; omega) (by omega) hb ?_
    intro v' w2 ho2 hg2 _
    refine h v' w2 ?_ hg2
    unfold OwnZ
    rw [List.length_append, List.map_append]
    exact ho2
end Go.Proofs.Ytlkldehapkgdaaa

/- Arguments that came in, opened: how large they are. -/
namespace Go.Proofs.Ytlkldehapkgdaaa
open Go.RowKit
set_option linter.unusedVariables false

/-- all that is told of a reading is within reach -/
def Fits {H : Type} (t : TypeId) (d : DataW H) : Prop := ∀ n ∈ d.weights Try.prog t, n ≤ reachBytes
theorem weights_all {H : Type} {e : TypeId} : ∀ {l : List (DataW H)} {d : DataW H}, d ∈ l → ∀ n ∈ d.weights Try.prog e, n ∈ DataW.weightsAll Try.prog e l
  | d0 :: l, d, hd, n, hn => by
    simp only [DataW.weightsAll, List.mem_append]
    rcases List.mem_cons.1 hd with rfl | h
    · exact .inl hn
    · exact .inr (weights_all h n hn)
theorem Fits.len {H : Type} {t e : TypeId} {l r : List (DataW H)} (ht : Try.prog.underlying t = some (.slice e)) (h : Fits t (.slice l r)) (hb : 0 < Try.prog.bytesOf e) : l.length ≤ reachBytes := by
  have := h ((l.length + r.length) * Try.prog.bytesOf e) (by simp [DataW.weights, ht])
  refine Nat.le_trans ?_ this
  exact Nat.le_trans (Nat.le_add_right _ _) (Nat.le_mul_of_pos_right _ hb)
theorem Fits.elem {H : Type} {t e : TypeId} {l r : List (DataW H)} {d : DataW H} (ht : Try.prog.underlying t = some (.slice e)) (h : Fits t (.slice l r)) (hd : d ∈ l) : Fits e d := fun n hn =>
  h n (by simp only [DataW.weights, ht, List.mem_cons, List.mem_append]; exact .inr (.inl (weights_all hd n hn)))
theorem Fits.field {H : Type} {t : TypeId} {fs : Array Field} {xs : List (DataW H × List MemPlace)} {q : List MemPlace} {x y : DataW H × List MemPlace} {i : Nat} {f : Field} (ht : Try.prog.underlying t = some (.struct fs)) (h : Fits t x.1) (hx : x = (.agg (xs.map (·.1)), q)) (hf : fs[i]? = some f) (hy : xs[i]? = some y) : Fits f.type y.1 := fun n hn =>
  h n (by
    subst hx
    simp only [DataW.weights, ht]
    exact DataW.weights_mem_each (j := i) (t := f.type) (d := y.1) (by simp [hf]) (by simp [hy]) n hn)
end Go.Proofs.Ytlkldehapkgdaaa

/- Tables of types and how their entries lie: plain functions. No Go here. -/
namespace Go.Proofs.Ytlkldehapkgdaaa
open Go.RowKit
set_option linter.unusedVariables false

namespace Ty
/-- an entry -/
structure TyV where
  kind : Int
  elem : Int
  n : Int
  nf : Nat
  F : Nat → Int
/-- how an entry lies -/
structure Li where
  size : Int
  align : Int
  words : Int
  arr : Bool
def li0 : Li := ⟨0, 0, 0, false⟩
/-- the next multiple -/
def up (n a : Int) : Int := (n + a - 1) / a * a
/-- is x the number of one of so many? -/
def nmB (many x : Int) : Bool := decide (0 ≤ x) && decide (x < many)
/-- may it stand at a place of a table of so many? -/
def fldB (x : TyV) (i : Nat) : Bool := decide (x.nf ≤ 16) && (List.range x.nf).all fun k => nmB i (x.F k)
def okB (x : TyV) (i n : Nat) : Bool :=
  if x.kind = 11 ∨ x.kind = 14 then nmB n x.elem && (x.n == 0) && (x.nf == 0)
  else if x.kind = 12 then nmB i x.elem && nmB 65537 x.n && (x.nf == 0)
  else if x.kind = 13 then (x.elem == 0) && (x.n == 0) && fldB x i
  else ((x.kind == 15) || (decide (1 ≤ x.kind) && decide (x.kind ≤ 10))) && (x.elem == 0) && (x.n == 0) && (x.nf == 0)
section
variable (x : TyV) (L : Nat → Li)
/-- a field's -/
def fl (k : Nat) : Li := L (x.F k).toNat
def al : Nat → Int
  | 0 => 1
  | k + 1 => max (al k) (fl x L k).align
def ws : Nat → Int
  | 0 => 0
  | k + 1 => ws k + (fl x L k).words
def ar : Nat → Bool
  | 0 => false
  | k + 1 => ar k || (fl x L k).arr
/-- where so many fields end -/
def en : Nat → Int
  | 0 => 0
  | k + 1 => up (en k) (fl x L k).align + (fl x L k).size
/-- where a field begins -/
def bg (k : Nat) : Int := up (en x L k) (fl x L k).align
def lieOf : Li :=
  if x.kind = 12 then ⟨x.n * (L x.elem.toNat).size, (L x.elem.toNat).align, 0, true⟩
  else if x.kind = 13 then ⟨up (en x L x.nf) (al x L x.nf), al x L x.nf, ws x L x.nf, ar x L x.nf⟩
  else if x.kind = 14 ∨ x.kind = 15 then ⟨16, 8, 2, false⟩
  else ⟨Wd.by' x.kind, Wd.by' x.kind, 1, false⟩
end
/-- what stands ahead of it alone counts -/
theorem al_congr {x : TyV} {L M : Nat → Li} : ∀ {k : Nat}, (∀ j, j < k → fl x L j = fl x M j) → al x L k = al x M k
  | 0, _ => rfl
  | k + 1, h => by rw [al, al, al_congr fun j hj => h j (by omega), h k (by omega)]
theorem ws_congr {x : TyV} {L M : Nat → Li} : ∀ {k : Nat}, (∀ j, j < k → fl x L j = fl x M j) → ws x L k = ws x M k
  | 0, _ => rfl
  | k + 1, h => by rw [ws, ws, ws_congr fun j hj => h j (by omega), h k (by omega)]
theorem ar_congr {x : TyV} {L M : Nat → Li} : ∀ {k : Nat}, (∀ j, j < k → fl x L j = fl x M j) → ar x L k = ar x M k
  | 0, _ => rfl
  | k + 1, h => by rw [ar, ar, ar_congr fun j hj => h j (by omega), h k (by omega)]
theorem en_congr {x : TyV} {L M : Nat → Li} : ∀ {k : Nat}, (∀ j, j < k → fl x L j = fl x M j) → en x L k = en x M k
  | 0, _ => rfl
  | k + 1, h => by rw [en, en, en_congr fun j hj => h j (by omega), h k (by omega)]
theorem nmB_iff {many x : Int} : nmB many x = true ↔ 0 ≤ x ∧ x < many := by unfold nmB; simp
theorem fldB_iff {x : TyV} {i : Nat} : fldB x i = true ↔ x.nf ≤ 16 ∧ ∀ k, k < x.nf → 0 ≤ x.F k ∧ x.F k < i := by
  unfold fldB
  simp only [Bool.and_eq_true, decide_eq_true_eq, List.all_eq_true, List.mem_range, nmB_iff]
/-- what an entry may be -/
theorem ok_cases {x : TyV} {i n : Nat} (h : okB x i n = true) :
    (x.kind = 12 ∧ 0 ≤ x.elem ∧ x.elem < i ∧ 0 ≤ x.n ∧ x.n ≤ 65536 ∧ x.nf = 0) ∨ (x.kind = 13 ∧ x.elem = 0 ∧ x.n = 0 ∧ x.nf ≤ 16 ∧ ∀ k, k < x.nf → 0 ≤ x.F k ∧ x.F k < i) ∨
    ((x.kind = 14 ∨ x.kind = 15) ∧ x.n = 0 ∧ x.nf = 0) ∨ (1 ≤ x.kind ∧ x.kind ≤ 11 ∧ x.n = 0 ∧ x.nf = 0) := by
  unfold okB at h
  split at h
  · simp only [Bool.and_eq_true, beq_iff_eq] at h
    rename_i hk
    rcases hk with hk | hk
    · exact .inr (.inr (.inr ⟨by omega, by omega, h.1.2, h.2⟩))
    · exact .inr (.inr (.inl ⟨.inl hk, h.1.2, h.2⟩))
  · split at h
    · simp only [Bool.and_eq_true, beq_iff_eq, nmB_iff] at h
      exact .inl ⟨by assumption, h.1.1.1, h.1.1.2, h.1.2.1, by omega, h.2⟩
    · split at h
      · simp only [Bool.and_eq_true, beq_iff_eq] at h
        have := fldB_iff.1 h.2
        exact .inr (.inl ⟨by assumption, h.1.1, h.1.2, this.1, this.2⟩)
      · simp only [Bool.and_eq_true, Bool.or_eq_true, beq_iff_eq, decide_eq_true_eq] at h
        rcases h.1.1.1 with hk | hk
        · exact .inr (.inr (.inl ⟨.inr hk, h.1.2, h.2⟩))
        · exact .inr (.inr (.inr ⟨hk.1, by omega, h.1.2, h.2⟩))
theorem lieOf_congr {x : TyV} {i n : Nat} {L M : Nat → Li} (h : okB x i n = true) (e : ∀ j, j < i → L j = M j) : lieOf x L = lieOf x M := by
  unfold lieOf
  rcases ok_cases h with ⟨hk, h1, h2, _⟩ | ⟨hk, _, _, _, hf⟩ | ⟨hk, _⟩ | ⟨h1, h2, _⟩
  · rw [if_pos hk, if_pos hk, e _ (by omega)]
  · have hf' : ∀ j, j < x.nf → fl x L j = fl x M j := fun j hj => by unfold fl; exact e _ (by have := hf j hj; omega)
    have h12 : ¬ x.kind = 12 := by omega
    rw [if_neg h12, if_neg h12, if_pos hk, if_pos hk, en_congr hf', al_congr hf', ws_congr hf', ar_congr hf']
  · have h12 : ¬ x.kind = 12 := by omega
    have h13 : ¬ x.kind = 13 := by omega
    rw [if_neg h12, if_neg h12, if_neg h13, if_neg h13]
  · have h12 : ¬ x.kind = 12 := by omega
    have h13 : ¬ x.kind = 13 := by omega
    rw [if_neg h12, if_neg h12, if_neg h13, if_neg h13]
/-- how the first n entries lie -/
def lies (T : Nat → TyV) : Nat → Nat → Li
  | 0 => fun _ => li0
  | n + 1 => fun i => if i = n then lieOf (T n) (lies T n) else lies T n i
/-- how an entry lies -/
def lie (T : Nat → TyV) (i : Nat) : Li := lies T (i + 1) i
theorem lies_lie (T : Nat → TyV) : ∀ {n i : Nat}, i < n → lies T n i = lie T i
  | n + 1, i, h => by
    by_cases e : i = n
    · subst e; rfl
    · show (if i = n then _ else _) = _
      rw [if_neg e]
      exact lies_lie T (by omega)
theorem lie_eq {T : Nat → TyV} {i n : Nat} (h : okB (T i) i n = true) : lie T i = lieOf (T i) (lie T) := by
  show (if i = i then _ else _) = _
  rw [if_pos rfl]
  exact lieOf_congr h fun j hj => lies_lie T hj
/-- so many entries may stand, none of them large -/
def Fine (T : Nat → TyV) (n i : Nat) : Prop := ∀ j, j < i → okB (T j) j n = true ∧ (lie T j).size ≤ 65536
/-- an alignment -/
def Al (a : Int) : Prop := a = 1 ∨ a = 2 ∨ a = 4 ∨ a = 8
theorem Al.pos {a : Int} (h : Al a) : 1 ≤ a := by rcases h with rfl | rfl | rfl | rfl <;> omega
theorem Al.le {a : Int} (h : Al a) : a ≤ 8 := by rcases h with rfl | rfl | rfl | rfl <;> omega
theorem up_spec {n a : Int} (ha : Al a) : n ≤ up n a ∧ up n a < n + a ∧ up n a % a = 0 := by
  unfold up
  rcases ha with rfl | rfl | rfl | rfl <;> omega
theorem Al.max {a b : Int} (ha : Al a) (hb : Al b) : Al (max a b) := by
  unfold Al at *
  omega
/-- what is told of an entry that may stand -/
structure Good (l : Li) : Prop where
  al : Al l.align
  w0 : 0 ≤ l.words
  ws : l.words ≤ l.size
  md : l.size % l.align = 0
theorem al_al {x : TyV} {L : Nat → Li} : ∀ {k : Nat}, (∀ j, j < k → Good (fl x L j)) → Al (al x L k)
  | 0, _ => .inl rfl
  | k + 1, h => (al_al fun j hj => h j (by omega)).max (h k (by omega)).al
theorem en_spec {x : TyV} {L : Nat → Li} : ∀ {k : Nat}, (∀ j, j < k → Good (fl x L j) ∧ (fl x L j).size ≤ 65536) → 0 ≤ ws x L k ∧ ws x L k ≤ en x L k ∧ en x L k ≤ 65544 * k
  | 0, _ => by simp [ws, en]
  | k + 1, h => by
    obtain ⟨h1, h2, h3⟩ := en_spec (k := k) fun j hj => h j (by omega)
    obtain ⟨hg, hs⟩ := h k (by omega)
    have hu := up_spec (n := en x L k) hg.al
    have := hg.al.le
    have := hg.w0
    have := hg.ws
    rw [ws, en]
    refine ⟨by omega, by omega, ?_⟩
    push_cast
    omega
theorem by_al {k : Int} (h1 : 1 ≤ k) (h2 : k ≤ 11) : Al (Wd.by' k) := by
  have : k = 1 ∨ k = 2 ∨ k = 3 ∨ k = 4 ∨ k = 5 ∨ k = 6 ∨ k = 7 ∨ k = 8 ∨ k = 9 ∨ k = 10 ∨ k = 11 := by omega
  rcases this with rfl | rfl | rfl | rfl | rfl | rfl | rfl | rfl | rfl | rfl | rfl <;> simp [Al, Wd.by', Wd.wid]
theorem mul_mod {n s a : Int} (h : s % a = 0) : n * s % a = 0 := by
  rw [Int.mul_emod, h]; simp
theorem lieOf_good {x : TyV} {L : Nat → Li} {i n : Nat} (h : okB x i n = true) (hL : ∀ j, j < i → Good (L j) ∧ (L j).size ≤ 65536) : Good (lieOf x L) ∧ (lieOf x L).size ≤ 4294967296 := by
  unfold lieOf
  rcases ok_cases h with ⟨hk, h1, h2, h3, h4, _⟩ | ⟨hk, _, _, h16, hf⟩ | ⟨hk, _⟩ | ⟨h1, h2, _⟩
  · rw [if_pos hk]
    obtain ⟨hg, hs⟩ := hL x.elem.toNat (by omega)
    have h0 : 0 ≤ (L x.elem.toNat).size := by have := hg.w0; have := hg.ws; omega
    refine ⟨⟨hg.al, Int.le_refl _, Int.mul_nonneg h3 h0, mul_mod hg.md⟩, ?_⟩
    show x.n * _ ≤ _
    have := Int.mul_le_mul h4 hs h0 (by omega)
    omega
  · rw [if_neg (by omega), if_pos hk]
    have hf' : ∀ j, j < x.nf → Good (fl x L j) ∧ (fl x L j).size ≤ 65536 := fun j hj => hL _ (by have := hf j hj; omega)
    obtain ⟨e1, e2, e3⟩ := en_spec hf'
    have ha := al_al fun j hj => (hf' j hj).1
    have hu := up_spec (n := en x L x.nf) ha
    have := ha.le
    refine ⟨⟨ha, e1, ?_, hu.2.2⟩, ?_⟩
    · show ws x L x.nf ≤ up _ _
      omega
    · show up _ _ ≤ _
      omega
  · rw [if_neg (by omega), if_neg (by omega), if_pos hk]
    exact ⟨⟨.inr (.inr (.inr rfl)), by show (0 : Int) ≤ 2; omega, by show (2 : Int) ≤ 16; omega, rfl⟩, by show (16 : Int) ≤ _; omega⟩
  · rw [if_neg (by omega), if_neg (by omega), if_neg (by omega)]
    have := by_al h1 h2
    have h3 := this.pos
    have h4 := this.le
    exact ⟨⟨this, by show (0 : Int) ≤ 1; omega, h3, by show Wd.by' x.kind % Wd.by' x.kind = 0; exact Int.emod_self⟩, by show Wd.by' x.kind ≤ _; omega⟩
theorem Fine.mono {T : Nat → TyV} {n i j : Nat} (h : Fine T n i) (hj : j ≤ i) : Fine T n j := fun k hk => h k (by omega)
theorem Fine.good {T : Nat → TyV} {n : Nat} : ∀ {i : Nat}, Fine T n i → ∀ j, j < i → Good (lie T j) ∧ (lie T j).size ≤ 65536
  | 0, _, _, h => by omega
  | i + 1, h, j, hj => by
    by_cases e : j < i
    · exact Fine.good (h.mono (by omega)) j e
    · obtain rfl : j = i := by omega
      refine ⟨?_, (h j (by omega)).2⟩
      rw [lie_eq (h j (by omega)).1]
      exact (lieOf_good (h j (by omega)).1 fun k hk => Fine.good (h.mono (by omega)) k hk).1
theorem Fine.next {T : Nat → TyV} {n i : Nat} (h : Fine T n i) (ho : okB (T i) i n = true) : Good (lie T i) ∧ (lie T i).size ≤ 4294967296 := by
  rw [lie_eq ho]
  exact lieOf_good ho h.good
end Ty
end Go.Proofs.Ytlkldehapkgdaaa

/- How a table of types lies; types' small functions. -/
namespace Go.Proofs.Ytlkldehapkgdaaa
open Go.RowKit
set_option linter.unusedVariables false

/-- an entry at a place, its fields elsewhere -/
structure TyC (N : Nat) (w : World) (b o : Nat) (x : Ty.TyV) (fa : Option Addr) (fc : Nat) : Prop where
  c0 : w.cell? ⟨b, o, none⟩ = some (.int .i64 x.kind)
  c1 : w.cell? ⟨b, o + 1, none⟩ = some (.int .i64 x.elem)
  c2 : w.cell? ⟨b, o + 2, none⟩ = some (.int .i64 x.n)
  c3 : w.cell? ⟨b, o + 3, none⟩ = some (.slice fa x.nf fc)
  f : NumIn N w fa x.nf fc x.F
  nz : fa = none → x.nf = 0 ∧ fc = 0
theorem TyC.ch {N : Nat} {w w' : World} {b o : Nat} {x : Ty.TyV} {fa : Option Addr} {fc : Nat} {l : List Nat} (h : TyC N w b o x fa fc) (hg : Ch w w' l) (hl : ∀ k, k ∈ l → N ≤ k) (hb : b ∉ l) : TyC N w' b o x fa fc :=
  ⟨hg.cell h.c0 hb, hg.cell h.c1 hb, hg.cell h.c2 hb, hg.cell h.c3 hb, h.f.ch hg hl, h.nz⟩
/-- a table, below block N -/
structure TysIn (N : Nat) (w : World) (a : Option Addr) (n c : Nat) (T : Nat → Ty.TyV) : Prop where
  le : n ≤ c
  max : c ≤ maxLen
  lie : n = 0 ∨ ∃ b off, a = some ⟨b, off, none⟩ ∧ b < N ∧ ∀ i, i < n → ∃ fa fc, TyC N w b (off + i * 4) (T i) fa fc
theorem TysIn.ch {N : Nat} {w w' : World} {a : Option Addr} {n c : Nat} {T : Nat → Ty.TyV} {l : List Nat} (h : TysIn N w a n c T) (hg : Ch w w' l) (hl : ∀ k, k ∈ l → N ≤ k) : TysIn N w' a n c T :=
  ⟨h.le, h.max, by
    rcases h.lie with h0 | ⟨b, off, e, hb, hi⟩
    · exact .inl h0
    · exact .inr ⟨b, off, e, hb, fun i hi' => by obtain ⟨fa, fc, hc⟩ := hi i hi'; exact ⟨fa, fc, hc.ch hg hl (fun hm => by have := hl b hm; omega)⟩⟩⟩
theorem TysIn.at {N : Nat} {w : World} {a : Option Addr} {n c : Nat} {T : Nat → Ty.TyV} (h : TysIn N w a n c T) {i : Nat} (hi : i < n) : ∃ b off fa fc, a = some ⟨b, off, none⟩ ∧ b < N ∧ TyC N w b (off + i * 4) (T i) fa fc := by
  rcases h.lie with h0 | ⟨b, off, e, hb, hh⟩
  · omega
  · obtain ⟨fa, fc, hc⟩ := hh i hi
    exact ⟨b, off, fa, fc, e, hb, hc⟩
theorem NumIn.up {N M : Nat} {w : World} {a : Option Addr} {n c : Nat} {F : Nat → Int} (h : NumIn N w a n c F) (hM : N ≤ M) : NumIn M w a n c F :=
  ⟨h.le, h.max, by
    rcases h.lie with h0 | ⟨b, off, e, hb, hi⟩
    · exact .inl h0
    · exact .inr ⟨b, off, e, Nat.lt_of_lt_of_le hb hM, hi⟩⟩
theorem TysIn.up {N M : Nat} {w : World} {a : Option Addr} {n c : Nat} {T : Nat → Ty.TyV} (h : TysIn N w a n c T) (hM : N ≤ M) : TysIn M w a n c T :=
  ⟨h.le, h.max, by
    rcases h.lie with h0 | ⟨b, off, e, hb, hi⟩
    · exact .inl h0
    · exact .inr ⟨b, off, e, Nat.lt_of_lt_of_le hb hM, fun i hi' => by obtain ⟨fa, fc, hc⟩ := hi i hi'; exact ⟨fa, fc, hc.c0, hc.c1, hc.c2, hc.c3, hc.f.up hM, hc.nz⟩⟩⟩

theorem nm_any (many x : Int) (w : World) : Calls Try.prog 42 #[.int .i64 many, .int .i64 x] w fun e w' => e = .returned (.bool (Ty.nmB many x)) ∧ w' = w := by
  go_enter Try.func42, Try.ntmps42
  go_wp2
  all_goals (go_ret; refine ⟨ret_bool ?_, rfl⟩; unfold Ty.nmB; first | rfl | (rw [Bool.eq_iff_iff]; simp at *; try omega))
theorem up_any {n a : Int} (ha : Ty.Al a) (h0 : 0 ≤ n) (h1 : n ≤ 1099511627776) (w : World) : Calls Try.prog 51 #[.int .i64 n, .int .i64 a] w fun e w' => e = .returned (.int .i64 (Ty.up n a)) ∧ w' = w := by
  rcases ha with rfl | rfl | rfl | rfl
  all_goals (
    go_enter Try.func51, Try.ntmps51
    go_wp2
    go_ret
    refine ⟨ret_i64 ?_, rfl⟩
    unfold Ty.up
    try omega)
theorem large_any (l : Ty.Li) (w : World) : Calls Try.prog 37 #[.agg #[.int .i64 l.size, .int .i64 l.align, .int .i64 l.words, .bool l.arr]] w fun e w' => e = .returned (.bool (decide (65536 < l.size))) ∧ w.grownBy w' none := by
  go_enter Try.func37, Try.ntmps37
  go_wp2
  go_ret
  exact ⟨rfl, World.grownBy_alloc _ _ _⟩
def Ty.valB (l : Ty.Li) : Bool := !l.arr && decide (l.words ≤ 16)
theorem value_any (l : Ty.Li) (w : World) : Calls Try.prog 38 #[.agg #[.int .i64 l.size, .int .i64 l.align, .int .i64 l.words, .bool l.arr]] w fun e w' => e = .returned (.bool (Ty.valB l)) ∧ w.grownBy w' none := by
  obtain ⟨s, a, k, r⟩ := l
  unfold Ty.valB
  simp only
  cases r
  all_goals (
    go_enter Try.func38, Try.ntmps38
    go_wp2
    all_goals (go_ret; exact ⟨by first | rfl | simp_all, World.grownBy_alloc _ _ _⟩))
theorem Ty.fld_no {x : Ty.TyV} {i k : Nat} (hk : k < x.nf) (h : Ty.nmB i (x.F k) = false) : Ty.fldB x i = false := by
  cases hh : Ty.fldB x i
  · rfl
  · have h1 := (Ty.fldB_iff.1 hh).2 k hk
    rw [Ty.nmB_iff.2 h1] at h
    cases h
set_option maxRecDepth 100000 in
set_option maxHeartbeats 4000000 in
theorem flds_any {N : Nat} {w : World} {x : Ty.TyV} {fa : Option Addr} {fc : Nat} (h : NumIn N w fa x.nf fc x.F) (i : Nat) :
    Calls Try.prog 53 #[.slice fa x.nf fc, .int .i64 i] w fun e w' => e = .returned (.bool (Ty.fldB x i)) ∧ w' = w := by
  have hle := h.le
  have hmx := h.max
  unfold maxLen at hmx
  by_cases h16 : x.nf ≤ 16
  · have h16' : (x.nf : Int) ≤ 16 := by omega
    obtain ⟨R, hR⟩ : ∃ R, R = Ty.fldB x i := ⟨_, rfl⟩
    rw [← hR]
    have HR : Hid (R = Ty.fldB x i) := hR
    clear hR
    obtain ⟨n, hn⟩ : ∃ n, n = x.nf := ⟨_, rfl⟩
    have Hn : Hid (n = x.nf) := hn
    rw [← hn] at h16' hle ⊢
    have H : Hid (NumIn N w fa n fc x.F) := by show NumIn _ _ _ _ _ _; rw [hn]; exact h
    clear hn h
    go_enter Try.func53, Try.ntmps53
    go_wp2_with fail
    go_loopw [12] (fun ix wr => ∃ k : Nat, ix = .int .i64 k ∧ k ≤ n ∧ (∀ j, j < k → Ty.nmB i (x.F j) = true) ∧ wr = w) (fun ix _ => n - (intOf ix).toNat)
    case atStart => exact ⟨0, rfl, Nat.zero_le _, fun j hj => by omega, rfl⟩
    case round =>
      obtain ⟨k, rfl, hk, hj, rfl⟩ := hrel
      by_cases hkn : k < n
      · have hkn' : (k : Int) < n := by omega
        obtain ⟨b, off, rfl, hb, hc⟩ := H.out.at hkn
        cases hm : Ty.nmB i (x.F k)
        · have HC : Hid (∀ W, Calls Try.prog 42 #[.int .i64 i, .int .i64 (x.F k)] W fun e w' => e = .returned (.bool false) ∧ w' = W) := fun W => by rw [← hm]; exact nm_any _ _ _
          have e : R = false := HR.out.trans (Ty.fld_no (by rw [← Hn.out]; exact hkn) hm)
          generalize x.F k = y at *
          clear hj
          go_wp2_with (go_at_call 42; refine (HC.out _).mono ?_; rintro e w3 ⟨rfl, rfl⟩)
          go_ret
          exact ⟨by rw [e]; rfl, rfl⟩
        · have HC : Hid (∀ W, Calls Try.prog 42 #[.int .i64 i, .int .i64 (x.F k)] W fun e w' => e = .returned (.bool true) ∧ w' = W) := fun W => by rw [← hm]; exact nm_any _ _ _
          have HJ : Hid (∀ j, j < k + 1 → Ty.nmB i (x.F j) = true) := fun j hj' => by
            by_cases e : j = k
            · subst e; exact hm
            · exact hj j (by omega)
          clear hj hm
          generalize x.F k = y at hc HC
          go_wp2_with (go_at_call 42; refine (HC.out _).mono ?_; rintro e w3 ⟨rfl, rfl⟩)
          go_roundw
          case rel => exact ⟨k + 1, by go_num, by omega, HJ.out, by first | rfl | trivial⟩
          case measure => simp [intOf]; omega
      · obtain rfl : k = n := by omega
        have e : R = true := HR.out.trans (Ty.fldB_iff.2 ⟨h16, fun j hj' => Ty.nmB_iff.1 (hj j (by rw [Hn.out]; exact hj'))⟩)
        clear hj
        go_wp2
        go_ret
        exact ⟨by rw [e]; rfl, rfl⟩
  · have h16' : (16 : Int) < x.nf := by omega
    have e : Ty.fldB x i = false := by
      cases hh : Ty.fldB x i
      · rfl
      · have := (Ty.fldB_iff.1 hh).1; omega
    rw [e]
    clear e h
    generalize x.nf = n at *
    go_enter Try.func53, Try.ntmps53
    go_wp2
    go_ret
    exact ⟨rfl, rfl⟩
set_option maxRecDepth 100000 in
set_option maxHeartbeats 8000000 in
theorem entry_any {N : Nat} {w : World} {x : Ty.TyV} {fa : Option Addr} {fc : Nat} (h : NumIn N w fa x.nf fc x.F) (i n : Nat) :
    Calls Try.prog 47 #[.agg #[.int .i64 x.kind, .int .i64 x.elem, .int .i64 x.n, .slice fa x.nf fc], .int .i64 i, .int .i64 n] w fun e w' => e = .returned (.bool (Ty.okB x i n)) ∧ w.grownBy w' none := by
  have hle := h.le
  have hmx := h.max
  unfold maxLen at hmx
  have HF : Hid (∀ W, w.grownBy W none → Calls Try.prog 53 #[.slice fa x.nf fc, .int .i64 i] W fun e w' => e = .returned (.bool (Ty.fldB x i)) ∧ w' = W) := fun W hg => flds_any (h.ch (l := []) (Ch.of hg) (by simp)) i
  have HN : Hid (∀ m y W, Calls Try.prog 42 #[.int .i64 m, .int .i64 y] W fun e w' => e = .returned (.bool (Ty.nmB m y)) ∧ w' = W) := nm_any
  have hz : (x.nf == 0) = ((x.nf : Int) == 0) := by rw [Bool.eq_iff_iff]; simp
  obtain ⟨R, hR⟩ : ∃ R, R = Ty.okB x i n := ⟨_, rfl⟩
  rw [← hR]
  unfold Ty.okB at hR
  rw [hz] at hR
  have HG : Hid (w.grownBy (w.alloc (Obj.cells #[.int .i64 x.kind, .int .i64 x.elem, .int .i64 x.n, .slice fa x.nf fc] 41)) none) := World.grownBy_alloc w _ none
  clear h hz
  generalize Ty.fldB x i = fb at *
  obtain ⟨k, el, nn, nf, F⟩ := x
  simp only at *
  have hc : k = 11 ∨ k = 14 ∨ k = 12 ∨ k = 13 ∨ ((k == 11) = false ∧ (k == 14) = false ∧ (k == 12) = false ∧ (k == 13) = false) := by
    simp only [beq_eq_false_iff_ne]; omega
  rcases hc with rfl | rfl | rfl | rfl | ⟨k1, k2, k3, k4⟩
  · rw [if_pos (by decide)] at hR
    have HC : Hid (∀ W, Calls Try.prog 42 #[.int .i64 n, .int .i64 el] W fun e w' => e = .returned (.bool (Ty.nmB n el)) ∧ w' = W) := HN.out n el
    generalize Ty.nmB n el = b1 at *
    clear HN HF
    have hq : b1 = false ∨ (b1 = true ∧ (nn == 0) = false) ∨ (b1 = true ∧ (nn == 0) = true ∧ ((nf : Int) == 0) = false) ∨ (b1 = true ∧ (nn == 0) = true ∧ ((nf : Int) == 0) = true) := by
      cases b1 <;> cases nn == 0 <;> cases (nf : Int) == 0 <;> simp
    rcases hq with rfl | ⟨rfl, e2⟩ | ⟨rfl, e2, e3⟩ | ⟨rfl, e2, e3⟩
    all_goals (
      simp [*] at hR
      subst hR
      go_enter Try.func47, Try.ntmps47
      go_wp2_with ((go_at_call 42; refine (HC.out _).mono ?_; rintro e w3 ⟨rfl, rfl⟩))
      go_ret
      exact ⟨rfl, HG.out⟩)
  · rw [if_pos (by decide)] at hR
    have HC : Hid (∀ W, Calls Try.prog 42 #[.int .i64 n, .int .i64 el] W fun e w' => e = .returned (.bool (Ty.nmB n el)) ∧ w' = W) := HN.out n el
    generalize Ty.nmB n el = b1 at *
    clear HN HF
    have hq : b1 = false ∨ (b1 = true ∧ (nn == 0) = false) ∨ (b1 = true ∧ (nn == 0) = true ∧ ((nf : Int) == 0) = false) ∨ (b1 = true ∧ (nn == 0) = true ∧ ((nf : Int) == 0) = true) := by
      cases b1 <;> cases nn == 0 <;> cases (nf : Int) == 0 <;> simp
    rcases hq with rfl | ⟨rfl, e2⟩ | ⟨rfl, e2, e3⟩ | ⟨rfl, e2, e3⟩
    all_goals (
      simp [*] at hR
      subst hR
      go_enter Try.func47, Try.ntmps47
      go_wp2_with ((go_at_call 42; refine (HC.out _).mono ?_; rintro e w3 ⟨rfl, rfl⟩))
      go_ret
      exact ⟨rfl, HG.out⟩)
  · rw [if_neg (by decide), if_pos rfl] at hR
    have HC : Hid (∀ W, Calls Try.prog 42 #[.int .i64 i, .int .i64 el] W fun e w' => e = .returned (.bool (Ty.nmB i el)) ∧ w' = W) := HN.out i el
    generalize Ty.nmB i el = b1 at *
    have HD : Hid (∀ W, Calls Try.prog 42 #[.int .i64 65537, .int .i64 nn] W fun e w' => e = .returned (.bool (Ty.nmB 65537 nn)) ∧ w' = W) := HN.out 65537 nn
    generalize Ty.nmB 65537 nn = b2 at *
    clear HN HF
    cases b1 <;> cases b2 <;> cases e3 : (nf : Int) == 0
    all_goals (
      simp [e3] at hR
      subst hR
      go_enter Try.func47, Try.ntmps47
      go_wp2_with (first | (go_at_call_of 42 (Value.int .i64 (i : Int)); refine (HC.out _).mono ?_; rintro e w3 ⟨rfl, rfl⟩) | (go_at_call 42; refine (HD.out _).mono ?_; rintro e w3 ⟨rfl, rfl⟩))
      go_ret
      exact ⟨rfl, HG.out⟩)
  · rw [if_neg (by decide), if_neg (by decide), if_pos rfl] at hR
    have HD := HF.out _ HG.out
    have HD' : Hid (Calls Try.prog 53 #[.slice fa nf fc, .int .i64 i] (w.alloc (Obj.cells #[.int .i64 13, .int .i64 el, .int .i64 nn, .slice fa nf fc] 41)) fun e w' => e = .returned (.bool fb) ∧ w' = (w.alloc (Obj.cells #[.int .i64 13, .int .i64 el, .int .i64 nn, .slice fa nf fc] 41))) := HD
    clear HN HF HD
    cases fb <;> cases e1 : el == 0 <;> cases e2 : nn == 0
    all_goals (
      simp [e1, e2] at hR
      subst hR
      go_enter Try.func47, Try.ntmps47
      go_wp2_with (go_at_call 53; refine HD'.out.mono ?_; rintro e w3 ⟨rfl, rfl⟩)
      go_ret
      exact ⟨rfl, HG.out⟩)
  · rw [if_neg (by simp_all), if_neg (by simp_all), if_neg (by simp_all)] at hR
    clear HN HF
    have hp : (k == 15) = true ∨ ((k == 15) = false ∧ decide (1 ≤ k) = true ∧ decide (k ≤ 10) = true) ∨ ((k == 15) = false ∧ decide (1 ≤ k) = true ∧ decide (k ≤ 10) = false) ∨ ((k == 15) = false ∧ decide (1 ≤ k) = false) := by
      cases k == 15 <;> cases decide (1 ≤ k) <;> cases decide (k ≤ 10) <;> simp
    have hq : (el == 0) = false ∨ ((el == 0) = true ∧ (nn == 0) = false) ∨ ((el == 0) = true ∧ (nn == 0) = true ∧ ((nf : Int) == 0) = false) ∨ ((el == 0) = true ∧ (nn == 0) = true ∧ ((nf : Int) == 0) = true) := by
      cases el == 0 <;> cases nn == 0 <;> cases (nf : Int) == 0 <;> simp
    rcases hp with e0 | ⟨e0, e4, e5⟩ | ⟨e0, e4, e5⟩ | ⟨e0, e4⟩
    · rcases hq with e1 | ⟨e1, e2⟩ | ⟨e1, e2, e3⟩ | ⟨e1, e2, e3⟩
      all_goals (
        simp only [*, Bool.true_or, Bool.and_true, Bool.and_false, Bool.false_and] at hR
        subst hR
        go_enter Try.func47, Try.ntmps47
        go_wp2
        go_ret
        exact ⟨rfl, HG.out⟩)
    · rcases hq with e1 | ⟨e1, e2⟩ | ⟨e1, e2, e3⟩ | ⟨e1, e2, e3⟩
      all_goals (
        simp only [*, Bool.false_or, Bool.and_true, Bool.and_false, Bool.false_and] at hR
        subst hR
        go_enter Try.func47, Try.ntmps47
        go_wp2
        go_ret
        exact ⟨rfl, HG.out⟩)
    · simp only [e0, e4, e5, Bool.and_false, Bool.false_or, Bool.false_and] at hR
      subst hR
      clear hq
      go_enter Try.func47, Try.ntmps47
      go_wp2
      go_ret
      exact ⟨rfl, HG.out⟩
    · simp only [e0, e4, Bool.false_or, Bool.false_and] at hR
      subst hR
      clear hq
      go_enter Try.func47, Try.ntmps47
      go_wp2
      go_ret
      exact ⟨rfl, HG.out⟩
end Go.Proofs.Ytlkldehapkgdaaa

/- The asker: what it keeps; places. -/
namespace Go.Proofs.Ytlkldehapkgdaaa
open Go.RowKit
set_option linter.unusedVariables false

/-- how an entry lies, in four cells -/
structure LiAt (w : World) (b o : Nat) (l : Ty.Li) : Prop where
  c0 : w.cell? ⟨b, o, none⟩ = some (.int .i64 l.size)
  c1 : w.cell? ⟨b, o + 1, none⟩ = some (.int .i64 l.align)
  c2 : w.cell? ⟨b, o + 2, none⟩ = some (.int .i64 l.words)
  c3 : w.cell? ⟨b, o + 3, none⟩ = some (.bool l.arr)
theorem LiAt.ch {w w' : World} {b o : Nat} {x : Ty.Li} {l : List Nat} (h : LiAt w b o x) (hg : Ch w w' l) (hb : b ∉ l) : LiAt w' b o x :=
  ⟨hg.cell h.c0 hb, hg.cell h.c1 hb, hg.cell h.c2 hb, hg.cell h.c3 hb⟩
theorem frozen_ch {w w' : World} {l : List Nat} (h : Ch w w' l) {b k : Nat} (hlt : b < w.heap.size) (hb : b ∉ l) (hf : w.frozen? ⟨b, k, none⟩ = false) : w'.frozen? ⟨b, k, none⟩ = false := by
  rw [← hf]
  simp only [World.frozen?, h.block b hlt hb]
/-- the asker: what was found (its variable bf, the row F), the table (bt), itself (ba) -/
structure Ak (N : Nat) (w : World) (T : Nat → Ty.TyV) (n : Nat) (a : Option Addr) (c bf bt ba F : Nat) : Prop where
  cf : w.cell? ⟨bf, 0, none⟩ = some (.slice (some ⟨F, 0, none⟩) n n)
  ct : w.cell? ⟨bt, 0, none⟩ = some (.slice a n c)
  ca : w.cell? ⟨ba, 0, none⟩ = some (.func (.func 48) #[] #[.pointer (some ⟨bf, 0, none⟩), .pointer (some ⟨bt, 0, none⟩), .pointer (some ⟨ba, 0, none⟩)])
  fz : ∀ k, w.frozen? ⟨F, k, none⟩ = false
  lt : F < w.heap.size
  lie : ∀ i, i < n → ∃ l, LiAt w F (i * 4) l ∧ (l.align = 0 ∨ l = Ty.lie T i)
  ty : TysIn N w a n c T
  nF : N ≤ F
  n1 : F ≠ bf
  n2 : F ≠ bt
  n3 : F ≠ ba
theorem Ak.ch {N : Nat} {w w' : World} {T : Nat → Ty.TyV} {n : Nat} {a : Option Addr} {c bf bt ba F : Nat} {l : List Nat} (h : Ak N w T n a c bf bt ba F) (hg : Ch w w' l) (hl : ∀ k, k ∈ l → N ≤ k) (h1 : bf ∉ l) (h2 : bt ∉ l) (h3 : ba ∉ l) (h4 : F ∉ l) : Ak N w' T n a c bf bt ba F :=
  ⟨hg.cell h.cf h1, hg.cell h.ct h2, hg.cell h.ca h3, fun k => frozen_ch hg h.lt h4 (h.fz k), Nat.lt_of_lt_of_le h.lt hg.size, fun i hi => by obtain ⟨x, hx, e⟩ := h.lie i hi; exact ⟨x, hx.ch hg h4, e⟩, h.ty.ch hg hl, h.nF, h.n1, h.n2, h.n3⟩
theorem Ak.grow {N : Nat} {w w' : World} {T : Nat → Ty.TyV} {n : Nat} {a : Option Addr} {c bf bt ba F : Nat} (h : Ak N w T n a c bf bt ba F) (hg : w.grownBy w' none) : Ak N w' T n a c bf bt ba F :=
  h.ch (l := []) (Ch.of hg) (by simp) (by simp) (by simp) (by simp) (by simp)
theorem Ak.bl {N : Nat} {w : World} {T : Nat → Ty.TyV} {n : Nat} {a : Option Addr} {c bf bt ba F : Nat} (h : Ak N w T n a c bf bt ba F) : bf < w.heap.size ∧ bt < w.heap.size ∧ ba < w.heap.size :=
  ⟨World.block_lt_of_cell? _ _ h.cf, World.block_lt_of_cell? _ _ h.ct, World.block_lt_of_cell? _ _ h.ca⟩
/-- whose block is not one that stood already -/
theorem Ak.new {N : Nat} {w w0 w' : World} {T : Nat → Ty.TyV} {n : Nat} {a : Option Addr} {c bf bt ba F B : Nat} (h : Ak N w0 T n a c bf bt ba F) (h0 : Ak N w T n a c bf bt ba F) (hN : N ≤ w.heap.size) (hB : w.heap.size ≤ B) (hg : w0.grownBy w' (some B)) : Ak N w' T n a c bf bt ba F := by
  have hb := h0.bl
  have := h0.lt
  exact h.ch (l := [B]) (Ch.one hg (by simp)) (by simp; omega) (by simp; omega) (by simp; omega) (by simp; omega) (by simp; omega)
/-- it tells the first K -/
def AskOk (N : Nat) (T : Nat → Ty.TyV) (n : Nat) (a : Option Addr) (c bf bt ba F K : Nat) : Prop :=
  ∀ j, j < K → ∀ w, Ak N w T n a c bf bt ba F → Calls Try.prog 48 #[.int .i64 j, .pointer (some ⟨bf, 0, none⟩), .pointer (some ⟨bt, 0, none⟩), .pointer (some ⟨ba, 0, none⟩)] w fun e w' =>
    e = .returned (.agg #[.int .i64 (Ty.lie T j).size, .int .i64 (Ty.lie T j).align, .int .i64 (Ty.lie T j).words, .bool (Ty.lie T j).arr]) ∧ Ak N w' T n a c bf bt ba F ∧ Ch w w' [F]
theorem AskOk.low {N : Nat} {T : Nat → Ty.TyV} {n : Nat} {a : Option Addr} {c bf bt ba F K K' : Nat} (h : AskOk N T n a c bf bt ba F K) (hk : K' ≤ K) : AskOk N T n a c bf bt ba F K' := fun j hj => h j (by omega)
/-- one number appended -/
theorem wp_appZ1 {ops : Array Oper} {rest : List Oper} {o : Oper} {a : Act} {Q : Exit → Act → World → Prop} {W : World} (hgd : o.guard = none) (s x : Operand)
    (ho : o.op = .call { callee := .builtin .append, args := #[s, x], argTypes := #[25, 25] }) (base : Nat) (v : Value) (l : List Int) (X : Int) (hs : a.eval s = v) (hown : OwnZ W base v l)
    {nb : Nat} (hx : a.eval x = .slice (some ⟨nb, 0, none⟩) 1 1) (hnb : nb = W.heap.size) (hl : l.length ≤ 2000000) (hb : base ≤ W.heap.size)
    (h : ∀ v' w', OwnZ w' base v' (l ++ [X]) → W.grownBy w' v.ownBlock → wpList Try.prog ops Q rest (a.put o.dst v') w') : wpList Try.prog ops Q (o :: rest) a (W.alloc (Obj.cells #[.int .i64 X] 3)) := by
  subst hnb
  have hl1 : OwnZ (W.alloc (Obj.cells #[.int .i64 X] 3)) W.heap.size (.slice (some ⟨W.heap.size, 0, none⟩) 1 1) [X] := World.ownsRow_lit (base := W.heap.size) (e := 3) (size := 1) W #[.int .i64 X] 1 (Nat.le_refl _) (by decide) rfl
  refine wp_appZs hgd s x ho base v _ l [X] _ hs (hown.grow (World.grownBy_alloc _ _ _)) hx hl1 hl (by simp) (by simp; omega) ?_
  intro v' w' ho' hg'
  exact h v' w' ho' (grown_trans (grown_noneR _ (World.grownBy_alloc _ _ _)) hg')
theorem grown_cell {w w' : World} {r : Option Nat} (hg : w.grownBy w' r) {b o : Nat} {v : Value} (hc : w.cell? ⟨b, o, none⟩ = some v) (hb : ∀ q, r = some q → q ≠ b) : w'.cell? ⟨b, o, none⟩ = some v := by
  rw [← hc]
  exact World.cell?_of_block (hg.block b (World.block_lt_of_cell? _ _ hc) (fun e => hb b e.symm rfl))
theorem ownZ_nil (w : World) (base : Nat) : OwnZ w base (.slice none 0 0) [] := ⟨rfl, .inl ⟨rfl, rfl⟩⟩
set_option maxRecDepth 100000 in
set_option maxHeartbeats 4000000 in
/-- where a struct's fields begin, and where the last one ends -/
theorem places7_any {N : Nat} {w : World} {T : Nat → Ty.TyV} {n : Nat} {a : Option Addr} {c bf bt ba F K : Nat} (hA : Ak N w T n a c bf bt ba F) (hO : AskOk N T n a c bf bt ba F K) (hN : N ≤ w.heap.size) (hK : Ty.Fine T n K)
    {x : Ty.TyV} {fa : Option Addr} {fc : Nat} (hx : NumIn N w fa x.nf fc x.F) (h16 : x.nf ≤ 16) (hf : ∀ k, k < x.nf → 0 ≤ x.F k ∧ x.F k < K) :
    Calls Try.prog 41 #[.slice fa x.nf fc, .func (.func 48) #[] #[.pointer (some ⟨bf, 0, none⟩), .pointer (some ⟨bt, 0, none⟩), .pointer (some ⟨ba, 0, none⟩)]] w fun e w' =>
      ∃ v, e = .returned (.tuple #[v, .int .i64 (Ty.en x (Ty.lie T) x.nf)]) ∧ OwnZ w' w.heap.size v ((List.range x.nf).map (Ty.bg x (Ty.lie T))) ∧ Ak N w' T n a c bf bt ba F ∧ Ch w w' [F] := by
  have hle := hx.le
  have hmx := hx.max
  unfold maxLen at hmx
  have HA : Hid (Ak N w T n a c bf bt ba F) := hA
  have HO : Hid (AskOk N T n a c bf bt ba F K) := hO
  have HX : Hid (NumIn N w fa x.nf fc x.F) := hx
  have HF : Hid (∀ k, k < x.nf → 0 ≤ x.F k ∧ x.F k < K) := hf
  have HK : Hid (∀ k, k < x.nf → Ty.Good (Ty.fl x (Ty.lie T) k) ∧ (Ty.fl x (Ty.lie T) k).size ≤ 65536) := fun k hk => hK.good _ (by have := hf k hk; omega)
  have HNF : Hid (N ≤ F) := hA.nF
  have HN : Hid (N ≤ w.heap.size) := hN
  obtain ⟨m, hm⟩ : ∃ m, m = x.nf := ⟨_, rfl⟩
  rw [← hm] at h16 hle HX HF HK ⊢
  clear hA hO hx hf hK hm
  go_enter Try.func41, Try.ntmps41
  go_wp2_with fail
  go_loopw [4, 5, 11] (fun v e ix wr => ∃ k : Nat, ix = .int .i64 k ∧ e = .int .i64 (Ty.en x (Ty.lie T) k) ∧ k ≤ m ∧ OwnZ wr w.heap.size v ((List.range k).map (Ty.bg x (Ty.lie T))) ∧ Ak N wr T n a c bf bt ba F ∧ Ch w wr [F]) (fun _ _ ix _ => m - (intOf ix).toNat)
  case atStart => exact ⟨0, rfl, rfl, Nat.zero_le _, ownZ_nil _ _, HA.out, Ch.refl _ _⟩
  case round =>
    obtain ⟨k, rfl, rfl, hk, ho, hA, hg⟩ := hrel
    have HG : Hid (Ch w wr [F]) := hg
    obtain ⟨av, cv, hv, hcv, _⟩ := ho.slice
    rw [List.length_map, List.length_range] at hv hcv
    subst hv
    have HW : Hid (OwnZ wr w.heap.size (.slice av k cv) ((List.range k).map (Ty.bg x (Ty.lie T)))) := ho
    have HA2 : Hid (Ak N wr T n a c bf bt ba F) := hA
    clear ho hA hg
    have hsz := HG.out.size
    have HV : Hid (∀ q, (Value.slice av k cv).ownBlock = some q → q ∉ [F]) := fun q hq => by have := HW.out.base q hq; have := HA.out.lt; simp; omega
    by_cases hkn : k < m
    · have hkn' : (k : Int) < m := by omega
      have hXr := HX.out.ch HG.out (by simp; exact HNF.out)
      obtain ⟨b, off, rfl, hb, hc⟩ := hXr.at hkn
      have hfk := HF.out k hkn
      obtain ⟨j, hj⟩ : ∃ j : Nat, x.F k = j := ⟨(x.F k).toNat, by omega⟩
      have hfl : Ty.fl x (Ty.lie T) k = Ty.lie T j := by unfold Ty.fl; rw [hj]; rfl
      obtain ⟨hgd, hs6⟩ := HK.out k hkn
      have hen := Ty.en_spec (k := k) fun i hi => HK.out i (by omega)
      obtain ⟨L, hL⟩ : ∃ L, L = Ty.lie T j := ⟨_, rfl⟩
      obtain ⟨E, hE⟩ : ∃ E, E = Ty.en x (Ty.lie T) k := ⟨_, rfl⟩
      obtain ⟨U, hU⟩ : ∃ U, U = Ty.up E L.align := ⟨_, rfl⟩
      have HE : Hid (Ty.en x (Ty.lie T) (k + 1) = U + L.size) := by show _ = _; rw [Ty.en, hfl, hU, hE, hL]
      have HB : Hid (Ty.bg x (Ty.lie T) k = U) := by show _ = _; rw [Ty.bg, hfl, hU, hE, hL]
      rw [hfl, ← hL] at hgd hs6
      rw [← hE] at hen
      have hal := hgd.al
      have hs0 : 0 ≤ L.size := by have := hgd.w0; have := hgd.ws; omega
      have hup := Ty.up_spec (n := E) hal
      rw [← hU] at hup
      have hu8 := hal.le
      have HC : Hid (∀ W, Ak N W T n a c bf bt ba F → Calls Try.prog 48 #[.int .i64 j, .pointer (some ⟨bf, 0, none⟩), .pointer (some ⟨bt, 0, none⟩), .pointer (some ⟨ba, 0, none⟩)] W fun e w' =>
        e = .returned (.agg #[.int .i64 L.size, .int .i64 L.align, .int .i64 L.words, .bool L.arr]) ∧ Ak N w' T n a c bf bt ba F ∧ Ch W w' [F]) := by rw [hL]; exact HO.out j (by omega)
      have HU : Hid (∀ W, Calls Try.prog 51 #[.int .i64 E, .int .i64 L.align] W fun e w' => e = .returned (.int .i64 U) ∧ w' = W) := fun W => by rw [hU]; exact up_any hal (by omega) (by omega) W
      rw [hj] at hc
      have h1 : 0 ≤ U := by omega
      have h2 : U ≤ 1099511627776 := by omega
      rw [← hE]
      clear hfk hj hfl hgd hal hup hu8 hen hE hU hL
      go_wp2_with (first
        | (go_at_call 48; refine (HC.out _ HA2.out).mono ?_; rintro e w3 ⟨rfl, hA3, hg3⟩; have HA3 : Hid (Ak N w3 T n a c bf bt ba F) := hA3; have HG3 : Hid (Ch wr w3 [F]) := hg3; clear hA3 hg3)
        | (go_at_call 51; refine (HU.out _).mono ?_; rintro e w4 ⟨rfl, rfl⟩)
        | (at_builtin; refine wp_appZ1 rfl _ _ rfl w.heap.size (.slice av k cv) ((List.range k).map (Ty.bg x (Ty.lie T))) U rfl ((HW.out.ch HG3.out HV.out).grow (World.grownBy_alloc _ _ _)) rfl (by simp) (by simp; omega) (by have := HG3.out.size; simp; omega) ?_; intro v5 w5 ho5 hg5; have cL := grown_cell (b := w3.heap.size) (o := 0) (v := .int .i64 L.size) hg5 (by simp) (fun q hq => by have := HW.out.lt q hq; have := HG3.out.size; omega)))
      have ho5' : OwnZ w5 w.heap.size v5 ((List.range (k + 1)).map (Ty.bg x (Ty.lie T))) := by rw [List.range_succ, List.map_append, List.map_singleton, HB.out]; exact ho5
      have hbk := HA.out.bl
      have hlt := HA.out.lt
      have hgw : Ch w w5 [F] := by
        have g4 : Ch w (w3.alloc (.cells #[.int .i64 L.size, .int .i64 L.align, .int .i64 L.words, .bool L.arr] 63)) [F] := (HG.out.trans HG3.out).trans (Ch.of (World.grownBy_alloc _ _ _))
        cases hav : (Value.slice av k cv).ownBlock with
        | none => rw [hav] at hg5; exact g4.trans (Ch.of hg5)
        | some T5 => rw [hav] at hg5; exact g4.new (HW.out.base T5 hav) hg5
      have hA5 : Ak N w5 T n a c bf bt ba F := by
        have hA4 := HA3.out.grow (World.grownBy_alloc w3 (.cells #[.int .i64 L.size, .int .i64 L.align, .int .i64 L.words, .bool L.arr] 63) none)
        cases hav : (Value.slice av k cv).ownBlock with
        | none => rw [hav] at hg5; exact hA4.grow hg5
        | some T5 => rw [hav] at hg5; exact hA4.new HA.out HN.out (HW.out.base T5 hav) hg5
      go_roundw
      case rel => exact ⟨k + 1, by go_num, by rw [HE.out], by omega, ho5', hA5, hgw⟩
      case measure => simp [intOf]; omega
    · obtain rfl : k = m := by omega
      go_wp2
      go_ret2
      exact ⟨_, rfl, HW.out, HA2.out, HG.out⟩
end Go.Proofs.Ytlkldehapkgdaaa

/- How a struct lies. -/
namespace Go.Proofs.Ytlkldehapkgdaaa
open Go.RowKit
set_option linter.unusedVariables false

theorem LiAt.set1 {w : World} {b : Nat} {l : Ty.Li} (h : LiAt w b 0 l) (z : Int) : LiAt (w.setCell ⟨b, 1, none⟩ (.int .i64 z)) b 0 { l with align := z } :=
  ⟨(World.cell?_setCell_other _ _ _ _ (by simp)).trans h.c0, World.cell?_setCell_same _ _ _ h.c1, (World.cell?_setCell_other _ _ _ _ (by simp)).trans h.c2, (World.cell?_setCell_other _ _ _ _ (by simp)).trans h.c3⟩
theorem LiAt.set2 {w : World} {b : Nat} {l : Ty.Li} (h : LiAt w b 0 l) (z : Int) : LiAt (w.setCell ⟨b, 2, none⟩ (.int .i64 z)) b 0 { l with words := z } :=
  ⟨(World.cell?_setCell_other _ _ _ _ (by simp)).trans h.c0, (World.cell?_setCell_other _ _ _ _ (by simp)).trans h.c1, World.cell?_setCell_same _ _ _ h.c2, (World.cell?_setCell_other _ _ _ _ (by simp)).trans h.c3⟩
theorem LiAt.set3 {w : World} {b : Nat} {l : Ty.Li} (h : LiAt w b 0 l) (z : Bool) : LiAt (w.setCell ⟨b, 3, none⟩ (.bool z)) b 0 { l with arr := z } :=
  ⟨(World.cell?_setCell_other _ _ _ _ (by simp)).trans h.c0, (World.cell?_setCell_other _ _ _ _ (by simp)).trans h.c1, (World.cell?_setCell_other _ _ _ _ (by simp)).trans h.c2, World.cell?_setCell_same _ _ _ h.c3⟩
set_option maxRecDepth 100000 in
set_option maxHeartbeats 4000000 in
theorem struct_any {N : Nat} {w : World} {T : Nat → Ty.TyV} {n : Nat} {a : Option Addr} {c bf bt ba F K : Nat} (hA : Ak N w T n a c bf bt ba F) (hO : AskOk N T n a c bf bt ba F K) (hN : N ≤ w.heap.size) (hK : Ty.Fine T n K)
    {x : Ty.TyV} {fa : Option Addr} {fc : Nat} (hx : NumIn N w fa x.nf fc x.F) (h16 : x.nf ≤ 16) (hf : ∀ k, k < x.nf → 0 ≤ x.F k ∧ x.F k < K) :
    Calls Try.prog 54 #[.slice fa x.nf fc, .func (.func 48) #[] #[.pointer (some ⟨bf, 0, none⟩), .pointer (some ⟨bt, 0, none⟩), .pointer (some ⟨ba, 0, none⟩)]] w fun e w' =>
      e = .returned (.agg #[.int .i64 (Ty.up (Ty.en x (Ty.lie T) x.nf) (Ty.al x (Ty.lie T) x.nf)), .int .i64 (Ty.al x (Ty.lie T) x.nf), .int .i64 (Ty.ws x (Ty.lie T) x.nf), .bool (Ty.ar x (Ty.lie T) x.nf)]) ∧ Ak N w' T n a c bf bt ba F ∧ Ch w w' [F] := by
  have hle := hx.le
  have hmx := hx.max
  unfold maxLen at hmx
  have HP : Hid (∀ W, Ak N W T n a c bf bt ba F → N ≤ W.heap.size → NumIn N W fa x.nf fc x.F → Calls Try.prog 41 #[.slice fa x.nf fc, .func (.func 48) #[] #[.pointer (some ⟨bf, 0, none⟩), .pointer (some ⟨bt, 0, none⟩), .pointer (some ⟨ba, 0, none⟩)]] W fun e w' =>
      ∃ v, e = .returned (.tuple #[v, .int .i64 (Ty.en x (Ty.lie T) x.nf)]) ∧ OwnZ w' W.heap.size v ((List.range x.nf).map (Ty.bg x (Ty.lie T))) ∧ Ak N w' T n a c bf bt ba F ∧ Ch W w' [F]) := fun W hA' hN' hx' => places7_any hA' hO hN' hK hx' h16 hf
  have HA : Hid (Ak N w T n a c bf bt ba F) := hA
  have HO : Hid (AskOk N T n a c bf bt ba F K) := hO
  have HX : Hid (NumIn N w fa x.nf fc x.F) := hx
  have HF : Hid (∀ k, k < x.nf → 0 ≤ x.F k ∧ x.F k < K) := hf
  have HK : Hid (∀ k, k < x.nf → Ty.Good (Ty.fl x (Ty.lie T) k) ∧ (Ty.fl x (Ty.lie T) k).size ≤ 65536) := fun k hk => hK.good _ (by have := hf k hk; omega)
  have HNF : Hid (N ≤ F) := hA.nF
  have HN : Hid (N ≤ w.heap.size) := hN
  have hFlt := hA.lt
  obtain ⟨m, hm⟩ : ∃ m, m = x.nf := ⟨_, rfl⟩
  rw [← hm] at h16 hle HX HF HK HP ⊢
  clear hA hO hx hf hK hm
  go_enter Try.func54, Try.ntmps54
  go_wp2_with fail
  go_loopw [13] (fun ix wr => ∃ k : Nat, ix = .int .i64 k ∧ k ≤ m ∧ LiAt wr w.heap.size 0 ⟨0, Ty.al x (Ty.lie T) k, Ty.ws x (Ty.lie T) k, Ty.ar x (Ty.lie T) k⟩ ∧ (∀ q, wr.frozen? ⟨w.heap.size, q, none⟩ = false) ∧ Ak N wr T n a c bf bt ba F ∧ Ch w wr [F]) (fun ix _ => m - (intOf ix).toNat)
  case atStart => exact ⟨0, rfl, Nat.zero_le _, ⟨by simp, by simp [Ty.al], by simp [Ty.ws], by simp [Ty.ar]⟩, fun q => by simp, HA.out.grow (World.grownBy_alloc _ _ _), Ch.of (World.grownBy_alloc _ _ _)⟩
  case round =>
    obtain ⟨k, rfl, hk, hl, hfz, hA, hg⟩ := hrel
    have HG : Hid (Ch w wr [F]) := hg
    have HL : Hid (LiAt wr w.heap.size 0 ⟨0, Ty.al x (Ty.lie T) k, Ty.ws x (Ty.lie T) k, Ty.ar x (Ty.lie T) k⟩) := hl
    have HZ : Hid (∀ q, wr.frozen? ⟨w.heap.size, q, none⟩ = false) := hfz
    have HA2 : Hid (Ak N wr T n a c bf bt ba F) := hA
    have hsz := World.block_lt_of_cell? _ _ hl.c0
    clear hl hfz hA hg
    by_cases hkn : k < m
    · have hkn' : (k : Int) < m := by omega
      have hXr := HX.out.ch HG.out (by simp; exact HNF.out)
      obtain ⟨b, off, rfl, hb, hc⟩ := hXr.at hkn
      have hfk := HF.out k hkn
      obtain ⟨j, hj⟩ : ∃ j : Nat, x.F k = j := ⟨(x.F k).toNat, by omega⟩
      have hfl : Ty.fl x (Ty.lie T) k = Ty.lie T j := by unfold Ty.fl; rw [hj]; rfl
      obtain ⟨hgd, hs6⟩ := HK.out k hkn
      have hen := Ty.en_spec (k := k) fun i hi => HK.out i (by omega)
      have hale := Ty.al_al (k := k) fun i hi => (HK.out i (by omega)).1
      obtain ⟨L, hL⟩ : ∃ L, L = Ty.lie T j := ⟨_, rfl⟩
      obtain ⟨al, hal⟩ : ∃ al, al = Ty.al x (Ty.lie T) k := ⟨_, rfl⟩
      obtain ⟨ws, hws⟩ : ∃ ws, ws = Ty.ws x (Ty.lie T) k := ⟨_, rfl⟩
      obtain ⟨ar, har⟩ : ∃ ar, ar = Ty.ar x (Ty.lie T) k := ⟨_, rfl⟩
      have HE1 : Hid (Ty.al x (Ty.lie T) (k + 1) = max al L.align) := by show _ = _; rw [Ty.al, hfl, hal, hL]
      have HE2 : Hid (Ty.ws x (Ty.lie T) (k + 1) = ws + L.words) := by show _ = _; rw [Ty.ws, hfl, hws, hL]
      have HE3 : Hid (Ty.ar x (Ty.lie T) (k + 1) = (ar || L.arr)) := by show _ = _; rw [Ty.ar, hfl, har, hL]
      rw [hfl, ← hL] at hgd hs6
      rw [← hws] at hen
      rw [← hal, ← hws, ← har] at HL
      rw [← hal] at hale
      have w0 := hgd.w0
      have w1 := hgd.ws
      have w2 : ws ≤ 1099511627776 := by omega
      have w3 := hen.1
      have a1 := hale.pos
      have a2 := hale.le
      have a3 := hgd.al.pos
      have a4 := hgd.al.le
      have HC : Hid (∀ W, Ak N W T n a c bf bt ba F → Calls Try.prog 48 #[.int .i64 j, .pointer (some ⟨bf, 0, none⟩), .pointer (some ⟨bt, 0, none⟩), .pointer (some ⟨ba, 0, none⟩)] W fun e w' =>
        e = .returned (.agg #[.int .i64 L.size, .int .i64 L.align, .int .i64 L.words, .bool L.arr]) ∧ Ak N w' T n a c bf bt ba F ∧ Ch W w' [F]) := by rw [hL]; exact HO.out j (by omega)
      rw [hj] at hc
      have hBF : w.heap.size ∉ [F] := by simp; omega
      clear hfk hj hfl hgd hal hws har hen hL
      cases ar
      all_goals (
        go_wp2_with (go_at_call 48; refine (HC.out _ HA2.out).mono ?_; rintro e w3 ⟨rfl, hA3, hg3⟩; have HA3 : Hid (Ak N w3 T n a c bf bt ba F) := hA3; have HG3 : Hid (Ch wr w3 [F]) := hg3; have hsz3 := hg3.size; have HL3 : Hid (LiAt (w3.alloc (.cells #[.int .i64 L.size, .int .i64 L.align, .int .i64 L.words, .bool L.arr] 63)) w.heap.size 0 ⟨0, al, ws, _⟩) := (HL.out.ch hg3 hBF).ch (l := []) (Ch.of (World.grownBy_alloc _ _ _)) (by simp); have l1 := HL3.out.c1; have l2 := HL3.out.c2; have l3 := HL3.out.c3; have HZ3 : Hid (∀ q, (w3.alloc (.cells #[.int .i64 L.size, .int .i64 L.align, .int .i64 L.words, .bool L.arr] 63)).frozen? ⟨w.heap.size, q, none⟩ = false) := (fun q => frozen_ch (l := []) (Ch.of (World.grownBy_alloc _ _ _)) (by omega) (by simp) (frozen_ch hg3 hsz hBF (HZ.out q))); have z1 := HZ3.out 1; have z2 := HZ3.out 2; have z3 := HZ3.out 3; clear hA3 hg3)
        have eM : max al L.align = if al < L.align then L.align else al := by split <;> omega
        go_roundw
        case rel =>
          refine ⟨k + 1, by go_num, by omega, ?_, fun q => by simp only [World.frozen?_setCell]; exact HZ3.out q, ?_, ?_⟩
          · rw [HE1.out, HE2.out, HE3.out, eM]
            exact ((HL3.out.set1 _).set2 _).set3 _
          · exact (((HA3.out.grow (World.grownBy_alloc _ _ _)).new HA.out HN.out (Nat.le_refl _) (grown_set _ _ _ _)).new HA.out HN.out (Nat.le_refl _) (grown_set _ _ _ _)).new HA.out HN.out (Nat.le_refl _) (grown_set _ _ _ _)
          · exact ((((HG.out.trans HG3.out).trans (Ch.of (World.grownBy_alloc _ _ _))).new (Nat.le_refl _) (grown_set _ _ _ _)).new (Nat.le_refl _) (grown_set _ _ _ _)).new (Nat.le_refl _) (grown_set _ _ _ _)
        case measure => simp [intOf]; omega)
    · obtain rfl : k = m := by omega
      have hXr := HX.out.ch HG.out (by simp; exact HNF.out)
      have hen := Ty.en_spec (k := k) fun i hi => HK.out i (by omega)
      have hale := Ty.al_al (k := k) fun i hi => (HK.out i (by omega)).1
      have hs0 := HG.out.size
      have hPC := HP.out wr HA2.out (by have := HN.out; omega) hXr
      have HPC : Hid (Calls Try.prog 41 #[.slice fa k fc, .func (.func 48) #[] #[.pointer (some ⟨bf, 0, none⟩), .pointer (some ⟨bt, 0, none⟩), .pointer (some ⟨ba, 0, none⟩)]] wr fun e w' =>
        ∃ v, e = .returned (.tuple #[v, .int .i64 (Ty.en x (Ty.lie T) k)]) ∧ OwnZ w' wr.heap.size v ((List.range k).map (Ty.bg x (Ty.lie T))) ∧ Ak N w' T n a c bf bt ba F ∧ Ch wr w' [F]) := hPC
      obtain ⟨E, hE⟩ : ∃ E, E = Ty.en x (Ty.lie T) k := ⟨_, rfl⟩
      obtain ⟨al, hal⟩ : ∃ al, al = Ty.al x (Ty.lie T) k := ⟨_, rfl⟩
      obtain ⟨ws, hws⟩ : ∃ ws, ws = Ty.ws x (Ty.lie T) k := ⟨_, rfl⟩
      obtain ⟨ar, har⟩ : ∃ ar, ar = Ty.ar x (Ty.lie T) k := ⟨_, rfl⟩
      obtain ⟨U, hU⟩ : ∃ U, U = Ty.up E al := ⟨_, rfl⟩
      have HU : Hid (∀ W, Calls Try.prog 51 #[.int .i64 E, .int .i64 al] W fun e w' => e = .returned (.int .i64 U) ∧ w' = W) := fun W => by rw [hU, hE, hal]; exact up_any hale (by omega) (by omega) W
      have HR : Hid ((Value.agg #[.int .i64 (Ty.up (Ty.en x (Ty.lie T) k) (Ty.al x (Ty.lie T) k)), .int .i64 (Ty.al x (Ty.lie T) k), .int .i64 (Ty.ws x (Ty.lie T) k), .bool (Ty.ar x (Ty.lie T) k)]) = .agg #[.int .i64 U, .int .i64 al, .int .i64 ws, .bool ar]) := by show _ = _; rw [hU, hE, hal, hws, har]
      rw [← hal, ← hws, ← har] at HL
      rw [← hE] at HPC
      have hBF : w.heap.size ∉ [F] := by simp; omega
      clear hPC hXr hen hale hE hal hws har hU
      go_wp2_with (first
        | (go_at_call 41; refine HPC.out.mono ?_; rintro e w3 ⟨v3, rfl, ho3, hA3, hg3⟩; have HA3 : Hid (Ak N w3 T n a c bf bt ba F) := hA3; have HG3 : Hid (Ch wr w3 [F]) := hg3; have HL3 : Hid (LiAt w3 w.heap.size 0 ⟨0, al, ws, ar⟩) := (HL.out.ch hg3 hBF); have l0 := HL3.out.c0; have l1 := HL3.out.c1; have l2 := HL3.out.c2; have l3 := HL3.out.c3; have HZ3 : Hid (∀ q, w3.frozen? ⟨w.heap.size, q, none⟩ = false) := (fun q => frozen_ch hg3 hsz hBF (HZ.out q)); have z0 := HZ3.out 0; have z1 := HZ3.out 1; have z2 := HZ3.out 2; have z3 := HZ3.out 3; clear hA3 hg3 ho3)
        | (go_at_call 51; refine (HU.out _).mono ?_; rintro e w4 ⟨rfl, rfl⟩))
      refine bodyPost_ret (by simp [results, Try.results54, go_sem, l0, l1, l2, l3]; try rfl) rfl ?_
      rw [HR.out]
      exact ⟨rfl, (((((HA3.out.new HA.out HN.out (Nat.le_refl _) (grown_set _ _ _ _)).new HA.out HN.out (Nat.le_refl _) (grown_set _ _ _ _)).new HA.out HN.out (Nat.le_refl _) (grown_set _ _ _ _)).new HA.out HN.out (Nat.le_refl _) (grown_set _ _ _ _)).new HA.out HN.out (Nat.le_refl _) (grown_set _ _ _ _)), ((((((HG.out.trans HG3.out).new (Nat.le_refl _) (grown_set _ _ _ _)).new (Nat.le_refl _) (grown_set _ _ _ _)).new (Nat.le_refl _) (grown_set _ _ _ _)).new (Nat.le_refl _) (grown_set _ _ _ _)).new (Nat.le_refl _) (grown_set _ _ _ _))⟩
end Go.Proofs.Ytlkldehapkgdaaa

/- How an entry lies: find; the asker itself. -/
namespace Go.Proofs.Ytlkldehapkgdaaa
open Go.RowKit
set_option linter.unusedVariables false

def liV (l : Ty.Li) : Value := .agg #[.int .i64 l.size, .int .i64 l.align, .int .i64 l.words, .bool l.arr]
set_option maxRecDepth 100000 in
set_option maxHeartbeats 4000000 in
theorem find_any {N : Nat} {w : World} {T : Nat → Ty.TyV} {n : Nat} {a : Option Addr} {c bf bt ba F i : Nat} (hA : Ak N w T n a c bf bt ba F) (hO : AskOk N T n a c bf bt ba F i) (hN : N ≤ w.heap.size) (hK : Ty.Fine T n i)
    {x : Ty.TyV} {fa : Option Addr} {fc : Nat} (hx : NumIn N w fa x.nf fc x.F) (hok : Ty.okB x i n = true) :
    Calls Try.prog 49 #[.agg #[.int .i64 x.kind, .int .i64 x.elem, .int .i64 x.n, .slice fa x.nf fc], .func (.func 48) #[] #[.pointer (some ⟨bf, 0, none⟩), .pointer (some ⟨bt, 0, none⟩), .pointer (some ⟨ba, 0, none⟩)]] w fun e w' =>
      e = .returned (liV (Ty.lieOf x (Ty.lie T))) ∧ Ak N w' T n a c bf bt ba F ∧ Ch w w' [F] := by
  have hFlt := hA.lt
  obtain ⟨W2, hW2⟩ : ∃ W2, W2 = (w.alloc (.cells #[.int .i64 x.kind, .int .i64 x.elem, .int .i64 x.n, .slice fa x.nf fc] 41)).alloc (.cells #[.int .i64 0, .int .i64 0, .int .i64 0, .bool false] 63) := ⟨_, rfl⟩
  have hg2 : w.grownBy W2 none := by rw [hW2]; exact ga (World.grownBy_alloc _ _ _) _
  have hs2 : W2.heap.size = w.heap.size + 2 := by rw [hW2]; simp
  have hA2 := hA.grow hg2
  have hx2 := hx.ch (l := []) (Ch.of hg2) (by simp)
  have hN2 : N ≤ W2.heap.size := by omega
  have HA : Hid (Ak N w T n a c bf bt ba F) := hA
  have HN : Hid (N ≤ w.heap.size) := hN
  have HG2 : Hid (w.grownBy W2 none) := hg2
  have hBF : w.heap.size ∉ [F] := by simp; omega
  have hBF1 : w.heap.size + 1 ∉ [F] := by simp; omega
  rcases Ty.ok_cases hok with ⟨hk, h1, h2, h3, h4, h5⟩ | ⟨hk, h1, h2, h16, hf⟩ | ⟨hk, h1, h2⟩ | ⟨h1, h2, h3, h4⟩
  · obtain ⟨L, hL⟩ : ∃ L, L = Ty.lie T x.elem.toNat := ⟨_, rfl⟩
    obtain ⟨hgd, hs⟩ := hK.good x.elem.toNat (by omega)
    rw [← hL] at hgd hs
    have hs0 : 0 ≤ L.size := by have := hgd.w0; have := hgd.ws; omega
    have HC : Hid (Calls Try.prog 48 #[.int .i64 x.elem, .pointer (some ⟨bf, 0, none⟩), .pointer (some ⟨bt, 0, none⟩), .pointer (some ⟨ba, 0, none⟩)] W2 fun e w' =>
        e = .returned (.agg #[.int .i64 L.size, .int .i64 L.align, .int .i64 L.words, .bool L.arr]) ∧ Ak N w' T n a c bf bt ba F ∧ Ch W2 w' [F]) := by
      have := hO x.elem.toNat (by omega) W2 hA2
      rw [Int.toNat_of_nonneg h1] at this
      rw [hL]; exact this
    have hm := Int.mul_le_mul h4 hs hs0 (by omega)
    have hm0 : 0 ≤ x.n * L.size := Int.mul_nonneg h3 hs0
    obtain ⟨M, hM⟩ : ∃ M, M = x.n * L.size := ⟨_, rfl⟩
    rw [← hM] at hm hm0
    have HR : Hid (liV (Ty.lieOf x (Ty.lie T)) = .agg #[.int .i64 M, .int .i64 L.align, .int .i64 0, .bool true]) := by show _ = _; unfold Ty.lieOf liV; rw [if_pos hk, ← hL, ← hM]
    have HM : Hid (wrap64 (x.n * L.size) = M) := by show _ = _; rw [← hM]; unfold wrap64; omega
    obtain ⟨k, el, nn, nf, FF⟩ := x
    simp only at *
    subst hk
    have k0 : W2.cell? ⟨w.heap.size, 0, none⟩ = some (.int .i64 12) := by rw [hW2]; simp
    have k1 : W2.cell? ⟨w.heap.size, 1, none⟩ = some (.int .i64 el) := by rw [hW2]; simp
    have k2 : W2.cell? ⟨w.heap.size, 2, none⟩ = some (.int .i64 nn) := by rw [hW2]; simp
    have K2 : Hid (W2.cell? ⟨w.heap.size, 2, none⟩ = some (.int .i64 nn)) := k2
    have HL2 : Hid (LiAt W2 (w.heap.size + 1) 0 ⟨0, 0, 0, false⟩) := by rw [hW2]; exact ⟨by simp, by simp, by simp, by simp⟩
    have HZ2 : Hid (∀ q, W2.frozen? ⟨w.heap.size + 1, q, none⟩ = false) := fun q => by rw [hW2]; simp
    have HW : Hid (W2 = (w.alloc (.cells #[.int .i64 12, .int .i64 el, .int .i64 nn, .slice fa nf fc] 41)).alloc (.cells #[.int .i64 0, .int .i64 0, .int .i64 0, .bool false] 63)) := hW2
    clear hA hO hK hx hok h1 h2 h5 hgd hW2 hA2 hx2 hL hM hg2
    go_enter Try.func49, Try.ntmps49
    go_wp2_with (go_at_call 48; rw [← HW.out]; refine HC.out.mono ?_; rintro e w3 ⟨rfl, hA3, hg3⟩; have HA3 : Hid (Ak N w3 T n a c bf bt ba F) := hA3; have HG3 : Hid (Ch W2 w3 [F]) := hg3; have hs3 := hg3.size; have HL3 : Hid (LiAt (w3.alloc (.cells #[.int .i64 L.size, .int .i64 L.align, .int .i64 L.words, .bool L.arr] 63)) (w.heap.size + 1) 0 ⟨0, 0, 0, false⟩) := (HL2.out.ch hg3 hBF1).ch (l := []) (Ch.of (World.grownBy_alloc _ _ _)) (by simp); have l0 := HL3.out.c0; have l1 := HL3.out.c1; have l2 := HL3.out.c2; have l3 := HL3.out.c3; have j2 : (w3.alloc (.cells #[.int .i64 L.size, .int .i64 L.align, .int .i64 L.words, .bool L.arr] 63)).cell? ⟨w.heap.size, 2, none⟩ = some (.int .i64 nn) := (Ch.of (l := []) (World.grownBy_alloc _ _ _)).cell (hg3.cell K2.out hBF) (by simp); have HZ3 : Hid (∀ q, (w3.alloc (.cells #[.int .i64 L.size, .int .i64 L.align, .int .i64 L.words, .bool L.arr] 63)).frozen? ⟨w.heap.size + 1, q, none⟩ = false) := (fun q => frozen_ch (l := []) (Ch.of (World.grownBy_alloc _ _ _)) (by omega) (by simp) (frozen_ch hg3 (by omega) hBF1 (HZ2.out q))); have z0 := HZ3.out 0; have z1 := HZ3.out 1; have z2 := HZ3.out 2; have z3 := HZ3.out 3; clear hA3 hg3)
    rw [HM.out]
    refine bodyPost_ret (by simp [results, Try.results49, go_sem, l0, l1, l2, l3]; try rfl) rfl ?_
    rw [HR.out]
    exact ⟨rfl, (((((HA3.out.grow (World.grownBy_alloc _ _ _)).new HA.out HN.out (Nat.le_succ _) (grown_set _ _ _ _)).new HA.out HN.out (Nat.le_succ _) (grown_set _ _ _ _)).new HA.out HN.out (Nat.le_succ _) (grown_set _ _ _ _)).new HA.out HN.out (Nat.le_succ _) (grown_set _ _ _ _)), (((((((Ch.of HG2.out).trans HG3.out).trans (Ch.of (World.grownBy_alloc _ _ _))).new (Nat.le_succ _) (grown_set _ _ _ _)).new (Nat.le_succ _) (grown_set _ _ _ _)).new (Nat.le_succ _) (grown_set _ _ _ _)).new (Nat.le_succ _) (grown_set _ _ _ _))⟩
  · have hP := struct_any hA2 hO hN2 hK hx2 h16 hf
    obtain ⟨L, hL⟩ : ∃ L : Ty.Li, L = ⟨Ty.up (Ty.en x (Ty.lie T) x.nf) (Ty.al x (Ty.lie T) x.nf), Ty.al x (Ty.lie T) x.nf, Ty.ws x (Ty.lie T) x.nf, Ty.ar x (Ty.lie T) x.nf⟩ := ⟨_, rfl⟩
    have HC : Hid (Calls Try.prog 54 #[.slice fa x.nf fc, .func (.func 48) #[] #[.pointer (some ⟨bf, 0, none⟩), .pointer (some ⟨bt, 0, none⟩), .pointer (some ⟨ba, 0, none⟩)]] W2 fun e w' =>
        e = .returned (.agg #[.int .i64 L.size, .int .i64 L.align, .int .i64 L.words, .bool L.arr]) ∧ Ak N w' T n a c bf bt ba F ∧ Ch W2 w' [F]) := by rw [hL]; exact hP
    have HR : Hid (liV (Ty.lieOf x (Ty.lie T)) = .agg #[.int .i64 L.size, .int .i64 L.align, .int .i64 L.words, .bool L.arr]) := by show _ = _; unfold Ty.lieOf liV; rw [if_neg (by omega), if_pos hk, hL]
    obtain ⟨k, el, nn, nf, FF⟩ := x
    simp only at *
    subst hk
    have HL2 : Hid (LiAt W2 (w.heap.size + 1) 0 ⟨0, 0, 0, false⟩) := by rw [hW2]; exact ⟨by simp, by simp, by simp, by simp⟩
    have HZ2 : Hid (∀ q, W2.frozen? ⟨w.heap.size + 1, q, none⟩ = false) := fun q => by rw [hW2]; simp
    have HW : Hid (W2 = (w.alloc (.cells #[.int .i64 13, .int .i64 el, .int .i64 nn, .slice fa nf fc] 41)).alloc (.cells #[.int .i64 0, .int .i64 0, .int .i64 0, .bool false] 63)) := hW2
    clear hA hO hK hx hok h1 h2 hW2 hA2 hx2 hL hg2 hP hf h16
    go_enter Try.func49, Try.ntmps49
    go_wp2_with (go_at_call 54; rw [← HW.out]; refine HC.out.mono ?_; rintro e w3 ⟨rfl, hA3, hg3⟩; have HA3 : Hid (Ak N w3 T n a c bf bt ba F) := hA3; have HG3 : Hid (Ch W2 w3 [F]) := hg3; have hs3 := hg3.size; have HL3 : Hid (LiAt w3 (w.heap.size + 1) 0 ⟨0, 0, 0, false⟩) := (HL2.out.ch hg3 hBF1); have l0 := HL3.out.c0; have l1 := HL3.out.c1; have l2 := HL3.out.c2; have l3 := HL3.out.c3; have HZ3 : Hid (∀ q, w3.frozen? ⟨w.heap.size + 1, q, none⟩ = false) := (fun q => frozen_ch hg3 (by omega) hBF1 (HZ2.out q)); have z0 := HZ3.out 0; have z1 := HZ3.out 1; have z2 := HZ3.out 2; have z3 := HZ3.out 3; clear hA3 hg3)
    refine bodyPost_ret (by simp [results, Try.results49, go_sem, l0, l1, l2, l3]; try rfl) rfl ?_
    rw [HR.out]
    exact ⟨rfl, ((((HA3.out.new HA.out HN.out (Nat.le_succ _) (grown_set _ _ _ _)).new HA.out HN.out (Nat.le_succ _) (grown_set _ _ _ _)).new HA.out HN.out (Nat.le_succ _) (grown_set _ _ _ _)).new HA.out HN.out (Nat.le_succ _) (grown_set _ _ _ _)), ((((((Ch.of HG2.out).trans HG3.out).new (Nat.le_succ _) (grown_set _ _ _ _)).new (Nat.le_succ _) (grown_set _ _ _ _)).new (Nat.le_succ _) (grown_set _ _ _ _)).new (Nat.le_succ _) (grown_set _ _ _ _))⟩
  · have HR : Hid (liV (Ty.lieOf x (Ty.lie T)) = .agg #[.int .i64 16, .int .i64 8, .int .i64 2, .bool false]) := by show _ = _; unfold Ty.lieOf liV; rw [if_neg (by omega), if_neg (by omega), if_pos hk]
    obtain ⟨k, el, nn, nf, FF⟩ := x
    simp only at *
    clear hO hK hx hok h1 h2 hA2 hx2 hg2 hW2 HG2 hs2 hN2
    rcases hk with rfl | rfl
    all_goals (
      go_enter Try.func49, Try.ntmps49
      go_wp2
      refine bodyPost_ret (by simp [results, Try.results49, go_sem]; try rfl) rfl ?_
      rw [HR.out]
      refine ⟨rfl, ?_, ?_⟩
      · exact hA.grow (ga (World.grownBy_alloc _ _ _) _)
      · exact Ch.of (ga (World.grownBy_alloc _ _ _) _))
  · have HR : Hid (liV (Ty.lieOf x (Ty.lie T)) = .agg #[.int .i64 (Wd.by' x.kind), .int .i64 (Wd.by' x.kind), .int .i64 1, .bool false]) := by show _ = _; unfold Ty.lieOf liV; rw [if_neg (by omega), if_neg (by omega), if_neg (by omega)]
    obtain ⟨k, el, nn, nf, FF⟩ := x
    simp only at *
    have k1 : (k == 12) = false := by simp; omega
    have k2 : (k == 13) = false := by simp; omega
    have k3 : (k == 14) = false := by simp; omega
    have k4 : (k == 15) = false := by simp; omega
    have HC : Hid (∀ W, Calls Try.prog 55 #[.int .i64 k] W fun e w' => e = .returned (.int .i64 (Wd.by' k)) ∧ w' = W) := fun W => bytes_any k W
    generalize Wd.by' k = B at *
    clear hO hK hx hok h3 h4 hA2 hx2 hg2 hW2 HG2 hs2 hN2
    go_enter Try.func49, Try.ntmps49
    go_wp2_with (go_at_call 55; refine (HC.out _).mono ?_; rintro e w3 ⟨rfl, rfl⟩)
    refine bodyPost_ret (by simp [results, Try.results49, go_sem]; try rfl) rfl ?_
    rw [HR.out]
    refine ⟨rfl, ?_, ?_⟩
    · exact hA.grow (ga (World.grownBy_alloc _ _ _) _)
    · exact Ch.of (ga (World.grownBy_alloc _ _ _) _)
end Go.Proofs.Ytlkldehapkgdaaa

/- The asker's own body. -/
namespace Go.Proofs.Ytlkldehapkgdaaa
open Go.RowKit
set_option linter.unusedVariables false

/-- a world in which the asker has gone on out of W -/
structure Kw (N : Nat) (T : Nat → Ty.TyV) (n : Nat) (a : Option Addr) (c bf bt ba F : Nat) (W : World) where
  w : World
  hA : Ak N w T n a c bf bt ba F
  hC : Ch W w [F]
theorem Kw.call {P : Program} {f : FuncId} {args : Array Value} {N : Nat} {T : Nat → Ty.TyV} {n : Nat} {a : Option Addr} {c bf bt ba F : Nat} {W : World} {x : Kw N T n a c bf bt ba F W} {v : Value}
    (h : Calls P f args x.w fun e w' => e = .returned v ∧ Ak N w' T n a c bf bt ba F ∧ Ch x.w w' [F]) : Calls P f args x.w fun e w'' => e = .returned v ∧ ∃ y : Kw N T n a c bf bt ba F W, w'' = y.w :=
  h.mono fun _ w'' ⟨he, hA, hg⟩ => ⟨he, ⟨w'', hA, x.hC.trans hg⟩, rfl⟩
/-- four cells laid -/
def put4 (w : World) (F o : Nat) (l : Ty.Li) : World := (((w.setCell ⟨F, o, none⟩ (.int .i64 l.size)).setCell ⟨F, o + 1, none⟩ (.int .i64 l.align)).setCell ⟨F, o + 2, none⟩ (.int .i64 l.words)).setCell ⟨F, o + 3, none⟩ (.bool l.arr)
theorem put4_same {w : World} {F o : Nat} {l l0 : Ty.Li} (h : LiAt w F o l0) : LiAt (put4 w F o l) F o l := by
  have a0 : (w.setCell ⟨F, o, none⟩ (.int .i64 l.size)).cell? ⟨F, o, none⟩ = some (.int .i64 l.size) := World.cell?_setCell_same _ _ _ h.c0
  have a1 : ((w.setCell ⟨F, o, none⟩ (.int .i64 l.size)).setCell ⟨F, o + 1, none⟩ (.int .i64 l.align)).cell? ⟨F, o + 1, none⟩ = some (.int .i64 l.align) := World.cell?_setCell_same _ _ _ ((World.cell?_setCell_other _ _ _ _ (by simp)).trans h.c1)
  have a2 : (((w.setCell ⟨F, o, none⟩ (.int .i64 l.size)).setCell ⟨F, o + 1, none⟩ (.int .i64 l.align)).setCell ⟨F, o + 2, none⟩ (.int .i64 l.words)).cell? ⟨F, o + 2, none⟩ = some (.int .i64 l.words) :=
    World.cell?_setCell_same _ _ _ (((World.cell?_setCell_other _ _ _ _ (by simp)).trans (World.cell?_setCell_other _ _ _ _ (by simp))).trans h.c2)
  refine ⟨?_, ?_, ?_, ?_⟩
  · exact (World.cell?_setCell_other _ _ _ _ (by simp)).trans ((World.cell?_setCell_other _ _ _ _ (by simp)).trans ((World.cell?_setCell_other _ _ _ _ (by simp)).trans a0))
  · exact (World.cell?_setCell_other _ _ _ _ (by simp)).trans ((World.cell?_setCell_other _ _ _ _ (by simp)).trans a1)
  · exact (World.cell?_setCell_other _ _ _ _ (by simp)).trans a2
  · exact World.cell?_setCell_same _ _ _ (((World.cell?_setCell_other _ _ _ _ (by simp)).trans ((World.cell?_setCell_other _ _ _ _ (by simp)).trans (World.cell?_setCell_other _ _ _ _ (by simp)))).trans h.c3)
theorem put4_far {w : World} {F o : Nat} {l : Ty.Li} {q : Nat} (h : q < o ∨ o + 4 ≤ q) : (put4 w F o l).cell? ⟨F, q, none⟩ = w.cell? ⟨F, q, none⟩ := by
  have e : ∀ d, d < 4 → (⟨F, o + d, none⟩ : Addr) ≠ ⟨F, q, none⟩ := fun d hd he => by injection he with h1 h2; omega
  unfold put4
  rw [World.cell?_setCell_other _ _ _ _ (e 3 (by omega)), World.cell?_setCell_other _ _ _ _ (e 2 (by omega)), World.cell?_setCell_other _ _ _ _ (e 1 (by omega)), World.cell?_setCell_other _ _ _ _ (show (⟨F, o, none⟩ : Addr) ≠ ⟨F, q, none⟩ from e 0 (by omega))]
theorem put4_grown (w : World) (F o : Nat) (l : Ty.Li) : w.grownBy (put4 w F o l) (some F) :=
  grown_trans (grown_trans (grown_trans (grown_set _ _ _ _) (grown_set _ _ _ _)) (grown_set _ _ _ _)) (grown_set _ _ _ _)
theorem Ak.put {N : Nat} {w : World} {T : Nat → Ty.TyV} {n : Nat} {a : Option Addr} {c bf bt ba F : Nat} (h : Ak N w T n a c bf bt ba F) {k : Nat} (hk : k < n) : Ak N (put4 w F (k * 4) (Ty.lie T k)) T n a c bf bt ba F := by
  have hg : Ch w (put4 w F (k * 4) (Ty.lie T k)) [F] := Ch.one (put4_grown _ _ _ _) (by simp)
  refine ⟨hg.cell h.cf (by simp; exact fun e => h.n1 e.symm), hg.cell h.ct (by simp; exact fun e => h.n2 e.symm), hg.cell h.ca (by simp; exact fun e => h.n3 e.symm), fun q => ?_, Nat.lt_of_lt_of_le h.lt hg.size, fun i hi => ?_, h.ty.ch hg (by simp; exact h.nF), h.nF, h.n1, h.n2, h.n3⟩
  · unfold put4
    simp only [World.frozen?_setCell]
    exact h.fz q
  · by_cases e : i = k
    · subst e
      obtain ⟨l0, hl, _⟩ := h.lie i hi
      exact ⟨_, put4_same hl, .inr rfl⟩
    · obtain ⟨l0, hl, e0⟩ := h.lie i hi
      exact ⟨l0, ⟨(put4_far (by omega)).trans hl.c0, (put4_far (by omega)).trans hl.c1, (put4_far (by omega)).trans hl.c2, (put4_far (by omega)).trans hl.c3⟩, e0⟩
set_option maxRecDepth 100000 in
set_option maxHeartbeats 4000000 in
/-- one more -/
theorem ask_step {N : Nat} {T : Nat → Ty.TyV} {n : Nat} {a : Option Addr} {c bf bt ba F K : Nat} (hO : AskOk N T n a c bf bt ba F K) (hK : Ty.Fine T n K) (hn : K < n) (hok : Ty.okB (T K) K n = true) : AskOk N T n a c bf bt ba F (K + 1) := by
  intro j hj
  by_cases hjK : j < K
  · exact hO j hjK
  obtain rfl : j = K := by omega
  clear hj hjK
  intro w hA
  obtain ⟨hgd, _⟩ := hK.next hok
  obtain ⟨L, hL⟩ : ∃ L, L = Ty.lie T j := ⟨_, rfl⟩
  have hn' : (j : Int) < n := by omega
  have hFlt := hA.lt
  have HA : Hid (Ak N w T n a c bf bt ba F) := hA
  have cf := (hA.grow (World.grownBy_alloc w (.cells #[.int .i64 0, .int .i64 0, .int .i64 0, .bool false] 63) none)).cf
  have HN : Hid (N ≤ w.heap.size) := by have := hA.nF; show N ≤ _; omega
  obtain ⟨l, hl, hcase⟩ := hA.lie j hn
  rw [← hL] at hgd hcase ⊢
  by_cases h0 : l.align = 0
  · clear hcase
    have f1 := (hl.ch (l := []) (Ch.of (World.grownBy_alloc w (.cells #[.int .i64 0, .int .i64 0, .int .i64 0, .bool false] 63) none)) (by simp)).c1
    rw [h0] at f1
    obtain ⟨b, off, fa, fc, rfl, hb, hty⟩ := hA.ty.at hn
    have HO : Hid (∀ W, Ak N W T n (some ⟨b, off, none⟩) c bf bt ba F → NumIn N W fa (T j).nf fc (T j).F → Calls Try.prog 49 #[.agg #[.int .i64 (T j).kind, .int .i64 (T j).elem, .int .i64 (T j).n, .slice fa (T j).nf fc], .func (.func 48) #[] #[.pointer (some ⟨bf, 0, none⟩), .pointer (some ⟨bt, 0, none⟩), .pointer (some ⟨ba, 0, none⟩)]] W fun e w' =>
      e = .returned (.agg #[.int .i64 L.size, .int .i64 L.align, .int .i64 L.words, .bool L.arr]) ∧ Ak N w' T n (some ⟨b, off, none⟩) c bf bt ba F ∧ Ch W w' [F]) := fun W h1 h2 => by
        have := find_any h1 hO (by have := h1.nF; have := h1.lt; omega) hK h2 hok
        rw [← Ty.lie_eq hok, ← hL] at this
        exact this
    have HT : Hid (TyC N w b (off + j * 4) (T j) fa fc) := hty
    have HLL : Hid (L = Ty.lie T j) := hL
    generalize T j = x at *
    obtain ⟨W, hW⟩ : ∃ W, W = w.alloc (.cells #[.int .i64 0, .int .i64 0, .int .i64 0, .bool false] 63) := ⟨_, rfl⟩
    have HW : Hid (w.grownBy W none) := by show World.grownBy _ _ _; rw [hW]; exact World.grownBy_alloc _ _ _
    have HL2 : Hid (LiAt W w.heap.size 0 ⟨0, 0, 0, false⟩) := by rw [hW]; exact ⟨by simp, by simp, by simp, by simp⟩
    have HZ2 : Hid (∀ q, W.frozen? ⟨w.heap.size, q, none⟩ = false) := fun q => by rw [hW]; simp
    have HWW : Hid (W = w.alloc (.cells #[.int .i64 0, .int .i64 0, .int .i64 0, .bool false] 63)) := hW
    clear hA hO hK hok hL hty hgd hl hW
    go_enter Try.func48, Try.ntmps48
    go_wp2_with fail
    rw [← HWW.out]
    refine tail_class (fun w' => ∃ y : Kw N T n (some ⟨b, off, none⟩) c bf bt ba F W, w' = y.w) 9 (by kernel_rfl) (by kernel_rfl) ⟨⟨W.drew, (HA.out.grow HW.out).grow (grown_drew (World.grownBy.refl _ _)), Ch.of (grown_drew (World.grownBy.refl _ _))⟩, rfl⟩ ?_
    have ne : Nonempty (Kw N T n (some ⟨b, off, none⟩) c bf bt ba F W) := ⟨⟨W, HA.out.grow HW.out, Ch.refl _ _⟩⟩
    have d0 := fun y : Kw N T n (some ⟨b, off, none⟩) c bf bt ba F W => y.hA.cf
    have d1 := fun y : Kw N T n (some ⟨b, off, none⟩) c bf bt ba F W => y.hA.ct
    have d2 := fun y : Kw N T n (some ⟨b, off, none⟩) c bf bt ba F W => y.hA.ca
    have hty := fun y : Kw N T n (some ⟨b, off, none⟩) c bf bt ba F W => (HT.out.ch (l := []) (Ch.of HW.out) (by simp) (by simp)).ch y.hC (by simp; exact HA.out.nF) (by simp; have := HA.out.nF; omega)
    have HTY : Hid (∀ y : Kw N T n (some ⟨b, off, none⟩) c bf bt ba F W, TyC N y.w b (off + j * 4) x fa fc) := hty
    have e0 := fun y : Kw N T n (some ⟨b, off, none⟩) c bf bt ba F W => (HTY.out y).c0
    have e1 := fun y : Kw N T n (some ⟨b, off, none⟩) c bf bt ba F W => (HTY.out y).c1
    have e2 := fun y : Kw N T n (some ⟨b, off, none⟩) c bf bt ba F W => (HTY.out y).c2
    have e3 := fun y : Kw N T n (some ⟨b, off, none⟩) c bf bt ba F W => (HTY.out y).c3
    clear hty
    simp only [List.take_succ_cons, List.take_zero, List.drop_succ_cons, List.drop_zero]
    repeat (go_big_quiet_step (first | exact rfl | (go_at_call 49; exact Kw.call (HO.out _ (Kw.hA _) (HTY.out _).f))))
    refine wpQuiet_nil ?_
    rintro W5 ⟨y5, hy5⟩
    have hA5 : Ak N W5 T n (some ⟨b, off, none⟩) c bf bt ba F := by rw [hy5]; exact y5.hA
    have hC5 : Ch W W5 [F] := by rw [hy5]; exact y5.hC
    clear hy5 y5 d0 d1 d2 e0 e1 e2 e3 ne HTY
    have HA5 : Hid (Ak N W5 T n (some ⟨b, off, none⟩) c bf bt ba F) := hA5
    have HC5 : Hid (Ch W W5 [F]) := hC5
    have hBF : w.heap.size ∉ [F] := by simp; omega
    have hsW : W.heap.size = w.heap.size + 1 := by rw [HWW.out]; simp
    have hs5 := hC5.size
    have HL5 := HL2.out.ch hC5 hBF
    have HZ5 : ∀ q, W5.frozen? ⟨w.heap.size, q, none⟩ = false := fun q => frozen_ch hC5 (by omega) hBF (HZ2.out q)
    obtain ⟨l5, hl5, _⟩ := hA5.lie j hn
    have g0 := hl5.c0
    have g1 := hl5.c1
    have g2 := hl5.c2
    have g3 := hl5.c3
    have y0 := hA5.fz (j * 4)
    have y1 := hA5.fz (j * 4 + 1)
    have y2 := hA5.fz (j * 4 + 2)
    have y3 := hA5.fz (j * 4 + 3)
    obtain ⟨W6, hW6⟩ : ∃ W6, W6 = put4 W5 F (j * 4) L := ⟨_, rfl⟩
    have hA6 : Ak N W6 T n (some ⟨b, off, none⟩) c bf bt ba F := by rw [hW6, HLL.out]; exact hA5.put hn
    have hl6 : LiAt W6 F (j * 4) L := by rw [hW6]; exact put4_same hl5
    have hC6 : Ch W5 W6 [F] := by rw [hW6]; exact Ch.one (put4_grown _ _ _ _) (by simp)
    have HA6 : Hid (Ak N W6 T n (some ⟨b, off, none⟩) c bf bt ba F) := hA6
    have HC6 : Hid (Ch W5 W6 [F]) := hC6
    have HL6 := HL5.ch hC6 hBF
    have HZ6 : ∀ q, W6.frozen? ⟨w.heap.size, q, none⟩ = false := fun q => frozen_ch hC6 (by omega) hBF (HZ5 q)
    have q0 := hl6.c0
    have q1 := hl6.c1
    have q2 := hl6.c2
    have q3 := hl6.c3
    have q4 := hA6.cf
    have r0 := HL6.c0
    have r1 := HL6.c1
    have r2 := HL6.c2
    have r3 := HL6.c3
    have t0 := HZ6 0
    have t1 := HZ6 1
    have t2 := HZ6 2
    have t3 := HZ6 3
    have HW6 : Hid (W6 = put4 W5 F (j * 4) L) := hW6
    unfold put4 at hW6
    rw [hW6] at q0 q1 q2 q3 q4 r0 r1 r2 r3 t0 t1 t2 t3
    clear hl6 hA6 hC6 HL6 HZ6 hl5 hA5 hC5 HL5 HZ5 hW6
    go_wp2
    refine bodyPost_ret (by simp [results, Try.results48, go_sem, r0, r1, r2, r3]; try rfl) rfl ?_
    have e6 := HW6.out
    unfold put4 at e6
    rw [← e6]
    refine ⟨rfl, ?_, ?_⟩
    · exact ((((HA6.out.new HA.out HN.out (Nat.le_refl _) (grown_set _ _ _ _)).new HA.out HN.out (Nat.le_refl _) (grown_set _ _ _ _)).new HA.out HN.out (Nat.le_refl _) (grown_set _ _ _ _)).new HA.out HN.out (Nat.le_refl _) (grown_set _ _ _ _))
    · exact (((((((Ch.of HW.out).trans HC5.out).trans HC6.out).new (Nat.le_refl _) (grown_set _ _ _ _)).new (Nat.le_refl _) (grown_set _ _ _ _)).new (Nat.le_refl _) (grown_set _ _ _ _)).new (Nat.le_refl _) (grown_set _ _ _ _))
  · have e : l = L := by
      rcases hcase with h | h
      · exact absurd h h0
      · exact h
    subst e
    have hal := hgd.al.pos
    have g := hl.ch (l := []) (Ch.of (World.grownBy_alloc w (.cells #[.int .i64 0, .int .i64 0, .int .i64 0, .bool false] 63) none)) (by simp)
    have g0 := g.c0
    have g1 := g.c1
    have g2 := g.c2
    have g3 := g.c3
    have h0' : (l.align == 0) = false := by simpa using h0
    clear hO hK hok hL hgd hl hcase hA g
    go_enter Try.func48, Try.ntmps48
    go_wp2
    refine bodyPost_ret (by simp [results, Try.results48, go_sem]; try rfl) rfl ?_
    refine ⟨rfl, ?_, ?_⟩
    · exact HA.out.grow (World.grownBy_alloc _ _ _)
    · exact Ch.of (World.grownBy_alloc _ _ _)
end Go.Proofs.Ytlkldehapkgdaaa

/- The asker made; the table tried. -/
namespace Go.Proofs.Ytlkldehapkgdaaa
open Go.RowKit
set_option linter.unusedVariables false

namespace Ty
def tabB (T : Nat → TyV) (n : Nat) : Bool := decide (n ≤ 64) && (List.range n).all fun i => okB (T i) i n
theorem tabB_iff {T : Nat → TyV} {n : Nat} : tabB T n = true ↔ n ≤ 64 ∧ ∀ i, i < n → okB (T i) i n = true := by
  unfold tabB
  simp only [Bool.and_eq_true, decide_eq_true_eq, List.all_eq_true, List.mem_range]
/-- a table's error, or 0 -/
def chk (T : Nat → TyV) (n : Nat) : Int := if tabB T n = true then (if ∀ i, i < n → (lie T i).size ≤ 65536 then 0 else 71) else 70
theorem chk_form {T : Nat → TyV} {n : Nat} (h : tabB T n = false) : chk T n = 70 := by unfold chk; rw [if_neg (by simp [h])]
theorem chk_ok {T : Nat → TyV} {n : Nat} (h : chk T n = 0) : n ≤ 64 ∧ Fine T n n := by
  unfold chk at h
  split at h
  · rename_i ht
    split at h
    · rename_i hs
      exact ⟨(tabB_iff.1 ht).1, fun j hj => ⟨(tabB_iff.1 ht).2 j hj, hs j hj⟩⟩
    · omega
  · omega
theorem least_large {T : Nat → TyV} : ∀ {n : Nat}, ¬ (∀ i, i < n → (lie T i).size ≤ 65536) → ∃ p, p < n ∧ 65536 < (lie T p).size ∧ ∀ j, j < p → (lie T j).size ≤ 65536
  | 0, h => absurd (fun i hi => by omega) h
  | n + 1, h => by
    by_cases h1 : ∀ i, i < n → (lie T i).size ≤ 65536
    · by_cases h2 : (lie T n).size ≤ 65536
      · exact absurd (fun i hi => by by_cases e : i = n; (subst e; exact h2); exact h1 i (by omega)) h
      · exact ⟨n, by omega, by omega, h1⟩
    · obtain ⟨p, a, b, c⟩ := least_large h1
      exact ⟨p, by omega, b, c⟩
theorem chk_large {T : Nat → TyV} {n : Nat} (h : tabB T n = true) (h0 : chk T n ≠ 0) : chk T n = 71 ∧ ∃ p, p < n ∧ 65536 < (lie T p).size ∧ Fine T n p := by
  unfold chk at *
  rw [if_pos h] at *
  by_cases h1 : ∀ i, i < n → (lie T i).size ≤ 65536
  · rw [if_pos h1] at h0; exact absurd rfl h0
  · rw [if_neg h1]
    obtain ⟨p, a, b, c⟩ := least_large h1
    exact ⟨rfl, p, a, b, fun j hj => ⟨(tabB_iff.1 h).2 j (by omega), c j hj⟩⟩
end Ty
theorem info_li : (Try.prog.info? 63).map (fun i => (i.zero, i.size, i.bytes)) = some (some (.agg #[.int .i64 0, .int .i64 0, .int .i64 0, .bool false]), 4, 32) := by kernel_rfl
theorem run_make_li (w : World) (n : Nat) (hn : n ≤ 64) : ∃ w1, (Instr.makeSlice 82 (.int .i64 n) (.int .i64 n)).run Try.prog w = .ok (.slice (some ⟨w.heap.size, 0, none⟩) n n) w1 ∧ (∀ i, i < n → LiAt w1 w.heap.size (i * 4) Ty.li0) ∧ (∀ q, w1.frozen? ⟨w.heap.size, q, none⟩ = false) ∧ w1.heap.size = w.heap.size + 1 ∧ w.grownBy w1 none := by
  obtain ⟨i, hi, hz0, hz1, hz2⟩ := info_parts info_li
  have := run_make (P := Try.prog) w 82 63 i (.agg #[.int .i64 0, .int .i64 0, .int .i64 0, .bool false]) Try.underlying82 hi hz0 .i64 .i64 n n (by omega) (by omega) (by rw [hz2]; omega) (by omega)
  rw [hz1] at this
  simp only [Int.toNat_natCast] at this
  refine ⟨_, this, ?_, fun q => by simp, by simp, World.grownBy_alloc _ _ _⟩
  have hcell : ∀ q, q < n * 4 → (w.alloc (.cells (madeCells (Value.agg #[.int .i64 0, .int .i64 0, .int .i64 0, .bool false]).cells (n * 4)) 63)).cell? ⟨w.heap.size, q, none⟩ = some (#[Value.int .i64 0, .int .i64 0, .int .i64 0, .bool false].getD (q % 4) undef) := by
    intro q hq
    rw [World.cell?_alloc_new]
    simp [madeCells, Value.cells, hq]
    have h4 : q % 4 = 0 ∨ q % 4 = 1 ∨ q % 4 = 2 ∨ q % 4 = 3 := by omega
    rcases h4 with h | h | h | h <;> simp [h]
  intro k hk
  exact ⟨by rw [hcell _ (by omega)]; simp [Ty.li0], by rw [hcell _ (by omega)]; simp [Ty.li0], by rw [hcell _ (by omega)]; simp [Ty.li0], by rw [hcell _ (by omega)]; simp [Ty.li0]⟩
set_option maxRecDepth 100000 in
set_option maxHeartbeats 4000000 in
theorem newAsker_any {N : Nat} {w : World} {T : Nat → Ty.TyV} {n : Nat} {a : Option Addr} {c : Nat} (h : TysIn N w a n c T) (hN : N ≤ w.heap.size) (hn : n ≤ 64) :
    Calls Try.prog 36 #[.slice a n c] w fun e w' => ∃ bf bt ba F, e = .returned (.func (.func 48) #[] #[.pointer (some ⟨bf, 0, none⟩), .pointer (some ⟨bt, 0, none⟩), .pointer (some ⟨ba, 0, none⟩)]) ∧
      Ak N w' T n a c bf bt ba F ∧ w.heap.size ≤ F ∧ w.grownBy w' none := by
  have hmx := h.max
  have hle := h.le
  unfold maxLen at hmx
  have hn' : (n : Int) ≤ 64 := by omega
  obtain ⟨W2, hW2⟩ : ∃ W2, W2 = (w.alloc (.cells #[.slice a n c] 24)).alloc (.cells #[.nilFunc] 46) := ⟨_, rfl⟩
  have hg2 : w.grownBy W2 none := by rw [hW2]; exact ga (World.grownBy_alloc _ _ _) _
  have hs2 : W2.heap.size = w.heap.size + 2 := by rw [hW2]; simp
  have k0 : W2.cell? ⟨w.heap.size, 0, none⟩ = some (.slice a n c) := by rw [hW2]; simp
  have k1 : W2.cell? ⟨w.heap.size + 1, 0, none⟩ = some .nilFunc := by rw [hW2]; simp
  have z1 : W2.frozen? ⟨w.heap.size + 1, 0, none⟩ = false := by rw [hW2]; simp
  obtain ⟨w1, hmk, hli, hfz, hs1, hg1⟩ := run_make_li W2 n hn
  have j0 := (Ch.of (l := []) hg1).cell k0 (by simp)
  have j1 := (Ch.of (l := []) hg1).cell k1 (by simp)
  have y1 := frozen_ch (l := []) (Ch.of hg1) (by omega) (by simp) z1
  obtain ⟨B, hB⟩ : ∃ B, B = W2.heap.size := ⟨_, rfl⟩
  rw [← hB] at hmk hli hfz hs1 hs2
  rw [hW2] at hmk
  have HL : Hid (∀ i, i < n → LiAt w1 B (i * 4) Ty.li0) := hli
  have HZ : Hid (∀ q, w1.frozen? ⟨B, q, none⟩ = false) := hfz
  have HG : Hid (w.grownBy w1 none) := grown_trans hg2 hg1
  have HT : Hid (TysIn N w a n c T) := h
  have HN : Hid (N ≤ w.heap.size) := hN
  have HS : Hid (B = w.heap.size + 2 ∧ w1.heap.size = w.heap.size + 3) := ⟨hs2, by omega⟩
  have j0' := (Ch.of (l := []) (World.grownBy_alloc w1 (.cells #[.slice (some ⟨B, 0, none⟩) n n] 82) none)).cell j0 (by simp)
  have j1' := (Ch.of (l := []) (World.grownBy_alloc w1 (.cells #[.slice (some ⟨B, 0, none⟩) n n] 82) none)).cell j1 (by simp)
  have y1' := frozen_ch (l := []) (Ch.of (World.grownBy_alloc w1 (.cells #[.slice (some ⟨B, 0, none⟩) n n] 82) none)) (by omega) (by simp) y1
  clear h hli hfz hg2 hg1 hW2 hs2 hs1 hB k0 k1 z1
  go_enter Try.func36, Try.ntmps36
  go_wp2
  refine bodyPost_ret (by simp [results, Try.results36, go_sem, j1']; try rfl) rfl ?_
  have hS := HS.out
  have hg : w.grownBy (w1.alloc (.cells #[.slice (some ⟨B, 0, none⟩) n n] 82)) none := ga HG.out _
  have hg4 := gs (gs hg (b := w.heap.size + 1) 0 (.func (.func 48) #[] #[.pointer (some ⟨w1.heap.size, 0, none⟩), .pointer (some ⟨w.heap.size, 0, none⟩), .pointer (some ⟨w.heap.size + 1, 0, none⟩)]) (by omega)) (b := w.heap.size + 1) 0 (.func (.func 48) #[] #[.pointer (some ⟨w1.heap.size, 0, none⟩), .pointer (some ⟨w.heap.size, 0, none⟩), .pointer (some ⟨w.heap.size + 1, 0, none⟩)]) (by omega)
  have hc4 : Ch w1 (((w1.alloc (.cells #[.slice (some ⟨B, 0, none⟩) n n] 82)).setCell ⟨w.heap.size + 1, 0, none⟩ (.func (.func 48) #[] #[.pointer (some ⟨w1.heap.size, 0, none⟩), .pointer (some ⟨w.heap.size, 0, none⟩), .pointer (some ⟨w.heap.size + 1, 0, none⟩)])).setCell ⟨w.heap.size + 1, 0, none⟩ (.func (.func 48) #[] #[.pointer (some ⟨w1.heap.size, 0, none⟩), .pointer (some ⟨w.heap.size, 0, none⟩), .pointer (some ⟨w.heap.size + 1, 0, none⟩)])) [w.heap.size + 1] :=
    ((Ch.of (World.grownBy_alloc _ _ _)).trans (Ch.one (grown_set _ _ _ _) (by simp))).trans (Ch.one (grown_set _ _ _ _) (by simp))
  have hc5 : Ch (w1.alloc (.cells #[.slice (some ⟨B, 0, none⟩) n n] 82)) (((w1.alloc (.cells #[.slice (some ⟨B, 0, none⟩) n n] 82)).setCell ⟨w.heap.size + 1, 0, none⟩ (.func (.func 48) #[] #[.pointer (some ⟨w1.heap.size, 0, none⟩), .pointer (some ⟨w.heap.size, 0, none⟩), .pointer (some ⟨w.heap.size + 1, 0, none⟩)])).setCell ⟨w.heap.size + 1, 0, none⟩ (.func (.func 48) #[] #[.pointer (some ⟨w1.heap.size, 0, none⟩), .pointer (some ⟨w.heap.size, 0, none⟩), .pointer (some ⟨w.heap.size + 1, 0, none⟩)])) [w.heap.size + 1] :=
    (Ch.one (grown_set _ _ _ _) (by simp)).trans (Ch.one (grown_set _ _ _ _) (by simp))
  have hN := HN.out
  refine ⟨_, _, _, B, rfl, ⟨?_, ?_, ?_, ?_, ?_, ?_, ?_, ?_, ?_, ?_, ?_⟩, by omega, hg4⟩
  · exact hc5.cell (by simp) (by simp; omega)
  · exact hc4.cell j0 (by simp)
  · exact World.cell?_setCell_same _ _ _ (World.cell?_setCell_same _ _ _ j1')
  · exact fun q => frozen_ch hc4 (by omega) (by simp; omega) (HZ.out q)
  · have := hc4.size; omega
  · exact fun i hi => ⟨Ty.li0, (HL.out i hi).ch hc4 (by simp; omega), .inl rfl⟩
  · exact HT.out.ch (l := []) (Ch.of hg4) (by simp)
  · omega
  · omega
  · omega
  · omega
set_option maxRecDepth 100000 in
set_option maxHeartbeats 4000000 in
theorem isTable_any {N : Nat} {w : World} {T : Nat → Ty.TyV} {n : Nat} {a : Option Addr} {c : Nat} (h : TysIn N w a n c T) (hN : N ≤ w.heap.size) :
    Calls Try.prog 35 #[.slice a n c] w fun e w' => e = .returned (.bool (Ty.tabB T n)) ∧ w.grownBy w' none := by
  have hmx := h.max
  have hle := h.le
  unfold maxLen at hmx
  by_cases h64 : n ≤ 64
  · have h64' : (n : Int) ≤ 64 := by omega
    have HT : Hid (TysIn N w a n c T) := h
    obtain ⟨R, hR⟩ : ∃ R, R = Ty.tabB T n := ⟨_, rfl⟩
    rw [← hR]
    have HR : Hid (R = Ty.tabB T n) := hR
    clear hR h
    go_enter Try.func35, Try.ntmps35
    go_wp2_with fail
    go_loopw [10] (fun ix wr => ∃ k : Nat, ix = .int .i64 k ∧ k ≤ n ∧ (∀ j, j < k → Ty.okB (T j) j n = true) ∧ w.grownBy wr none) (fun ix _ => n - (intOf ix).toNat)
    case atStart => exact ⟨0, rfl, Nat.zero_le _, fun j hj => by omega, World.grownBy.refl _ _⟩
    case round =>
      obtain ⟨k, rfl, hk, hj, hg⟩ := hrel
      have HJ : Hid (∀ j, j < k → Ty.okB (T j) j n = true) := hj
      have HG : Hid (w.grownBy wr none) := hg
      clear hj hg
      by_cases hkn : k < n
      · have hkn' : (k : Int) < n := by omega
        obtain ⟨b, off, fa, fc, rfl, hb, hc⟩ := (HT.out.ch (l := []) (Ch.of HG.out) (by simp)).at hkn
        have c0 := hc.c0
        have c1 := hc.c1
        have c2 := hc.c2
        have c3 := hc.c3
        have HC : Hid (∀ W, wr.grownBy W none → Calls Try.prog 47 #[.agg #[.int .i64 (T k).kind, .int .i64 (T k).elem, .int .i64 (T k).n, .slice fa (T k).nf fc], .int .i64 k, .int .i64 n] W fun e w' => e = .returned (.bool (Ty.okB (T k) k n)) ∧ W.grownBy w' none) := fun W hW => entry_any (hc.f.ch (l := []) (Ch.of hW) (by simp)) k n
        clear hc
        have HX : Hid (wr.grownBy (wr.alloc (.cells #[.int .i64 (T k).kind, .int .i64 (T k).elem, .int .i64 (T k).n, .slice fa (T k).nf fc] 41)) none) := World.grownBy_alloc _ _ _
        cases hm : Ty.okB (T k) k n
        · have e : R = false := by
            rw [HR.out]
            cases hh : Ty.tabB T n
            · rfl
            · rw [(Ty.tabB_iff.1 hh).2 k hkn] at hm; cases hm
          rw [hm] at HC
          generalize T k = x at *
          go_wp2_with (go_at_call 47; refine (HC.out _ HX.out).mono ?_; rintro e w3 ⟨rfl, hg3⟩)
          go_ret
          exact ⟨by rw [e]; rfl, grown_trans (grown_trans HG.out HX.out) hg3⟩
        · have HJ2 : Hid (∀ j, j < k + 1 → Ty.okB (T j) j n = true) := fun j hj' => by
            by_cases e : j = k
            · subst e; exact hm
            · exact HJ.out j (by omega)
          rw [hm] at HC
          clear hm
          generalize T k = x at c0 c1 c2 c3 HC HX
          go_wp2_with (go_at_call 47; refine (HC.out _ HX.out).mono ?_; rintro e w3 ⟨rfl, hg3⟩)
          go_roundw
          case rel => exact ⟨k + 1, by go_num, by omega, HJ2.out, grown_trans (grown_trans HG.out HX.out) hg3⟩
          case measure => simp [intOf]; omega
      · obtain rfl : k = n := by omega
        have e : R = true := HR.out.trans (Ty.tabB_iff.2 ⟨h64, HJ.out⟩)
        go_wp2
        go_ret
        exact ⟨by rw [e]; rfl, HG.out⟩
  · have h64' : (64 : Int) < n := by omega
    have e : Ty.tabB T n = false := by
      cases hh : Ty.tabB T n
      · rfl
      · have := (Ty.tabB_iff.1 hh).1; omega
    rw [e]
    clear e h
    go_enter Try.func35, Try.ntmps35
    go_wp2
    go_ret
    exact ⟨rfl, World.grownBy.refl _ _⟩
end Go.Proofs.Ytlkldehapkgdaaa
