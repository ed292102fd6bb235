/- Contracts and plain facts that the walks share. -/
import Derived.Test.YtbpdggdpgohilaaRows
import Derived.WalkKit
import Derived.WalkSpells
import Derived.WalkLawsBesides
import Derived.Deep.QuietTactic
import Derived.BigQuiet
import Derived.Deep.OwnRows
import Derived.Below
import Derived.Handy
import Derived.StillTailTactics
import Derived.Deep.RegionWith
namespace Go.Proofs.Ytbpdggdpgohilaa
namespace Wd

def wid (k : Int) : Int := if k = 1 then 1 else if k = 2 ∨ k = 6 then 8 else if k = 3 ∨ k = 7 then 16 else if k = 4 ∨ k = 8 then 32 else if k = 5 ∨ k = 9 ∨ k = 10 ∨ k = 11 then 64 else 0

/-- the word whose lowest bits are x's, m = 2^width, h = m / 2 -/
def sx (m h x : Int) : Int := ((x + h) % m - h) % 18446744073709551616

def canon (k x : Int) : Int :=
  if k = 1 then x % 2 else if k = 2 then sx 256 128 x else if k = 3 then sx 65536 32768 x else if k = 4 then sx 4294967296 2147483648 x
  else if k = 5 then x % 18446744073709551616 else if k = 6 then x % 256 else if k = 7 then x % 65536 else if k = 8 then x % 4294967296
  else if k = 9 then x % 18446744073709551616 else if k = 10 then x % 18446744073709551616 else if k = 11 then x % 18446744073709551616 else 0

def isB (k x : Int) : Bool := decide (1 ≤ k) && decide (k ≤ 11) && (canon k x == x)
def sgnB (k : Int) : Bool := decide (2 ≤ k) && decide (k ≤ 5)
def intB (k : Int) : Bool := decide (2 ≤ k) && decide (k ≤ 9)
def numB (k : Int) : Bool := decide (2 ≤ k) && decide (k ≤ 10)
def cmpB (op : Int) : Bool := decide (11 ≤ op) && decide (op ≤ 16)
def hasUnB (op k : Int) : Bool := (op == 1 && numB k) || (op == 2 && k == 1) || (op == 3 && intB k)
def hasBinB (op k : Int) : Bool :=
  (intB k && decide (1 ≤ op) && decide (op ≤ 16)) || (k == 10 && ((decide (1 ≤ op) && decide (op ≤ 4)) || cmpB op)) ||
  (k == 1 && (op == 6 || op == 7 || op == 8 || op == 11 || op == 12)) || (k == 11 && (op == 11 || op == 12))

def tr (b : Bool) : Int := if b then 1 else 0

/-- the order of two numbers -/
def cmpI (op a b : Int) : Int :=
  if op = 11 then tr (a == b) else if op = 12 then tr (a != b) else if op = 13 then tr (decide (a < b)) else if op = 14 then tr (decide (a ≤ b))
  else if op = 15 then tr (decide (b < a)) else if op = 16 then tr (decide (b ≤ a)) else 0

/-- the signed number of 64 bits -/
def sg (x : Int) : Int := (x + 9223372036854775808) % 18446744073709551616 - 9223372036854775808

/-- unsigned kinds, bools and pointers -/
def bu (op k x y : Int) : Int :=
  if op = 1 then canon k (x + y) else if op = 2 then canon k (x - y) else if op = 3 then canon k (x * y) else if op = 4 then canon k (x / y) else if op = 5 then canon k (x % y)
  else if op = 6 then canon k (x.toNat &&& y.toNat : Nat) else if op = 7 then canon k (x.toNat ||| y.toNat : Nat) else if op = 8 then canon k (x.toNat ^^^ y.toNat : Nat)
  else if op = 9 then canon k (x * 2 ^ min y.toNat 64) else if op = 10 then canon k (x / 2 ^ min y.toNat 64) else cmpI op x y

def bs (op k x y : Int) : Int :=
  if op = 4 then canon k ((sg x).tdiv (sg y)) else if op = 5 then canon k ((sg x).tmod (sg y)) else if op = 10 then (sg x / 2 ^ min y.toNat 64) % 18446744073709551616
  else if 11 ≤ op then cmpI op (sg x) (sg y) else bu op k x y

/-- ints, bools, pointers: the word; 0 where there is none -/
def shB (op : Int) : Bool := op == 9 || op == 10

theorem kinds (k : Int) : k = 1 ∨ k = 2 ∨ k = 3 ∨ k = 4 ∨ k = 5 ∨ k = 6 ∨ k = 7 ∨ k = 8 ∨ k = 9 ∨ k = 10 ∨ k = 11 ∨ (k < 1 ∨ 11 < k) := by omega
theorem canon_out (k x : Int) (h : k < 1 ∨ 11 < k) : canon k x = 0 := by
  unfold canon
  rw [if_neg (by omega), if_neg (by omega), if_neg (by omega), if_neg (by omega), if_neg (by omega), if_neg (by omega), if_neg (by omega), if_neg (by omega), if_neg (by omega), if_neg (by omega), if_neg (by omega)]
theorem canon1 (x : Int) : canon 1 x = x % 2 := rfl
theorem canon2 (x : Int) : canon 2 x = ((x + 128) % 256 - 128) % 18446744073709551616 := rfl
theorem canon3 (x : Int) : canon 3 x = ((x + 32768) % 65536 - 32768) % 18446744073709551616 := rfl
theorem canon4 (x : Int) : canon 4 x = ((x + 2147483648) % 4294967296 - 2147483648) % 18446744073709551616 := rfl
theorem canon5 (x : Int) : canon 5 x = x % 18446744073709551616 := rfl
theorem canon6 (x : Int) : canon 6 x = x % 256 := rfl
theorem canon7 (x : Int) : canon 7 x = x % 65536 := rfl
theorem canon8 (x : Int) : canon 8 x = x % 4294967296 := rfl
theorem canon9 (x : Int) : canon 9 x = x % 18446744073709551616 := rfl
theorem canon10 (x : Int) : canon 10 x = x % 18446744073709551616 := rfl
theorem canon11 (x : Int) : canon 11 x = x % 18446744073709551616 := rfl

theorem canon_mod (k x : Int) : canon k (x % 18446744073709551616) = canon k x := by
  rcases kinds k with h | h | h | h | h | h | h | h | h | h | h | h <;> first | (subst h; simp only [canon1, canon2, canon3, canon4, canon5, canon6, canon7, canon8, canon9, canon10, canon11]; omega) | simp only [canon_out k _ h]
theorem canon_wrap (k x : Int) : canon k (IntKind.u64.wrap x) = canon k x := by rw [IntKind.wrap_u64, canon_mod]
theorem canon_rng (k x : Int) : 0 ≤ canon k x ∧ canon k x < 18446744073709551616 := by
  rcases kinds k with h | h | h | h | h | h | h | h | h | h | h | h <;> first | (subst h; simp only [canon1, canon2, canon3, canon4, canon5, canon6, canon7, canon8, canon9, canon10, canon11]; omega) | simp only [canon_out k _ h]; omega
theorem canon_canon (k x : Int) : canon k (canon k x) = canon k x := by
  rcases kinds k with h | h | h | h | h | h | h | h | h | h | h | h <;> first | (subst h; simp only [canon1, canon2, canon3, canon4, canon5, canon6, canon7, canon8, canon9, canon10, canon11]; omega) | simp only [canon_out k _ h]

theorem bu1 (k x y : Int) : bu 1 k x y = canon k (x + y) := rfl
theorem bu2 (k x y : Int) : bu 2 k x y = canon k (x - y) := rfl
theorem bu3 (k x y : Int) : bu 3 k x y = canon k (x * y) := rfl
theorem bu4 (k x y : Int) : bu 4 k x y = canon k (x / y) := rfl
theorem bu5 (k x y : Int) : bu 5 k x y = canon k (x % y) := rfl
theorem bu6 (k x y : Int) : bu 6 k x y = canon k (x.toNat &&& y.toNat : Nat) := rfl
theorem bu7 (k x y : Int) : bu 7 k x y = canon k (x.toNat ||| y.toNat : Nat) := rfl
theorem bu8 (k x y : Int) : bu 8 k x y = canon k (x.toNat ^^^ y.toNat : Nat) := rfl
theorem bu9 (k x y : Int) : bu 9 k x y = canon k (x * 2 ^ min y.toNat 64) := rfl
theorem bu10 (k x y : Int) : bu 10 k x y = canon k (x / 2 ^ min y.toNat 64) := rfl
theorem buc (op k x y : Int) (h : 11 ≤ op) : bu op k x y = cmpI op x y := by
  unfold bu; rw [if_neg (by omega), if_neg (by omega), if_neg (by omega), if_neg (by omega), if_neg (by omega), if_neg (by omega), if_neg (by omega), if_neg (by omega), if_neg (by omega), if_neg (by omega)]
theorem bs4 (k x y : Int) : bs 4 k x y = canon k ((sg x).tdiv (sg y)) := rfl
theorem bs5 (k x y : Int) : bs 5 k x y = canon k ((sg x).tmod (sg y)) := rfl
theorem bs10 (k x y : Int) : bs 10 k x y = (sg x / 2 ^ min y.toNat 64) % 18446744073709551616 := rfl
theorem bsc (op k x y : Int) (h : 11 ≤ op) : bs op k x y = cmpI op (sg x) (sg y) := by
  unfold bs; rw [if_neg (by omega), if_neg (by omega), if_neg (by omega), if_pos h]
theorem bsu (op k x y : Int) (h : op ≤ 10) (h4 : op ≠ 4) (h5 : op ≠ 5) (h10 : op ≠ 10) : bs op k x y = bu op k x y := by
  unfold bs; rw [if_neg h4, if_neg h5, if_neg h10, if_neg (by omega)]

/-- Bin of a kind that is not KindF64: the word and the error -/
def binI (op k x y : Int) : Int × Int :=
  if hasBinB op k = false then (0, 10) else if isB k x = false ∨ isB (if shB op then 9 else k) y = false then (0, 11)
  else if y = 0 ∧ (op = 4 ∨ op = 5) then (0, 12) else if sgnB k then (bs op k x y, 0) else (bu op k x y, 0)

theorem hasBin_ops {op k : Int} (h : hasBinB op k = true) : 1 ≤ op ∧ op ≤ 16 := by
  simp [hasBinB, intB, cmpB] at h; omega

end Wd
end Go.Proofs.Ytbpdggdpgohilaa
namespace Go.Proofs.Ytbpdggdpgohilaa
open Go.RowKit
theorem ret_i64 {a b : Int} (h : a = b) : Ending.returned (.int .i64 a) = .returned (.int .i64 b) := by rw [h]
theorem ret_u64 {a b : Int} (h : a = b) : Ending.returned (.int .u64 a) = .returned (.int .u64 b) := by rw [h]
theorem ret_bool {a b : Bool} (h : a = b) : Ending.returned (.bool a) = .returned (.bool b) := by rw [h]

end Go.Proofs.Ytbpdggdpgohilaa
namespace Go.Proofs.Ytbpdggdpgohilaa
open Go.RowKit
set_option linter.unusedVariables false
namespace Wd
def by' (k : Int) : Int := (wid k + 7) / 8
end Wd

namespace Wd
def wordB (k : Int) : Bool := decide (1 ≤ k) && decide (k ≤ 11)
end Wd

namespace Mm
/-- the number that n bytes from a on are, the lowest one first -/
def ld (m : Nat → Int) (a : Nat) : Nat → Int
  | 0 => 0
  | n + 1 => ld m a n + m (a + n) * 256 ^ n
/-- a number's byte -/
def by8 (x : Int) (i : Nat) : Int := x / 256 ^ i % 256
/-- n bytes g laid from a on -/
def pt (m : Nat → Int) (a n : Nat) (g : Nat → Int) : Nat → Int := fun i => if a ≤ i ∧ i < a + n then g (i - a) else m i
/-- do all numbers fit a byte? -/
def Fit (m : Nat → Int) : Prop := ∀ i, 0 ≤ m i ∧ m i < 256

theorem mod_mul (x a b : Int) (ha : 0 < a) (hb : 0 < b) : x % (a * b) = x % a + a * (x / a % b) := by
  have h1 := Int.mul_ediv_add_emod x a
  have h2 := Int.mul_ediv_add_emod (x / a) b
  have h3 := Int.emod_nonneg x (show a ≠ 0 by omega)
  have h4 := Int.emod_lt_of_pos x ha
  have h5 := Int.emod_nonneg (x / a) (show b ≠ 0 by omega)
  have h6 := Int.emod_lt_of_pos (x / a) hb
  have e : x = (x % a + a * (x / a % b)) + a * b * (x / a / b) := by
    have : a * (x / a) = a * (b * (x / a / b)) + a * (x / a % b) := by rw [← Int.mul_add, h2]
    rw [Int.mul_assoc]; omega
  have k1 : 0 ≤ a * (x / a % b) := Int.mul_nonneg (by omega) h5
  have k2 : a * (x / a % b) ≤ a * (b - 1) := Int.mul_le_mul_of_nonneg_left (by omega) (by omega)
  rw [Int.mul_sub, Int.mul_one] at k2
  have k3 : (x % a + a * (x / a % b) + a * b * (x / a / b)) % (a * b) = x % a + a * (x / a % b) := by
    rw [Int.add_mul_emod_self_left]
    exact Int.emod_eq_of_lt (by omega) (by omega)
  rw [← e] at k3
  exact k3
theorem pow_pos (n : Nat) : (0 : Int) < 256 ^ n := Int.pow_pos (by omega)
theorem ld_zero (m : Nat → Int) (a : Nat) : ld m a 0 = 0 := rfl
theorem ld_succ (m : Nat → Int) (a n : Nat) : ld m a (n + 1) = ld m a n + m (a + n) * 256 ^ n := rfl
theorem ld_rng {m : Nat → Int} (hm : Fit m) (a n : Nat) : 0 ≤ ld m a n ∧ ld m a n < 256 ^ n := by
  induction n with
  | zero => simp [ld]
  | succ n ih =>
    have hp := pow_pos n
    have h := hm (a + n)
    rw [ld_succ, Int.pow_succ]
    have h1 : 0 ≤ m (a + n) * 256 ^ n := Int.mul_nonneg h.1 (by omega)
    have h2 : m (a + n) * 256 ^ n ≤ 255 * 256 ^ n := Int.mul_le_mul_of_nonneg_right (by omega) (by omega)
    omega
theorem ld_congr {m m' : Nat → Int} {a a' n : Nat} (h : ∀ i, i < n → m (a + i) = m' (a' + i)) : ld m a n = ld m' a' n := by
  induction n with
  | zero => rfl
  | succ n ih => rw [ld_succ, ld_succ, ih (fun i hi => h i (by omega)), h n (by omega)]
theorem ld_shift (m : Nat → Int) (a n : Nat) : ld m a n = ld (fun i => m (a + i)) 0 n := ld_congr fun i _ => by simp
/-- from the highest byte on -/
theorem ld_high (m : Nat → Int) (a n : Nat) : ld m a (n + 1) = m a + ld m (a + 1) n * 256 := by
  induction n with
  | zero => simp [ld]
  | succ n ih =>
    rw [ld_succ, ih, ld_succ m (a + 1) n, Int.add_mul, Int.pow_succ, show a + 1 + n = a + (n + 1) by omega, Int.mul_assoc (m (a + (n + 1)))]
    omega
theorem by8_rng (x : Int) (i : Nat) : 0 ≤ by8 x i ∧ by8 x i < 256 := by unfold by8; omega
theorem by8_fit (x : Int) : Fit (by8 x) := by8_rng x
theorem pt_fit {m g : Nat → Int} (hm : Fit m) (hg : Fit g) (a n : Nat) : Fit (pt m a n g) := by
  intro i; unfold pt; split
  · exact hg _
  · exact hm _
theorem ld_by8 (x : Int) (n : Nat) : ld (by8 x) 0 n = x % 256 ^ n := by
  induction n with
  | zero => simp [ld, Int.emod_one]
  | succ n ih =>
    rw [ld_succ, ih, Nat.zero_add, Int.pow_succ, mod_mul _ _ _ (pow_pos n) (by omega)]
    unfold by8
    rw [Int.mul_comm]
theorem pt_in {m g : Nat → Int} {a n i : Nat} (h : i < n) : pt m a n g (a + i) = g i := by
  unfold pt; rw [if_pos (by omega)]; congr 1; omega
theorem pt_out {m g : Nat → Int} {a n i : Nat} (h : i < a ∨ a + n ≤ i) : pt m a n g i = m i := by
  unfold pt; rw [if_neg (by omega)]
theorem pt_zero (m g : Nat → Int) (a : Nat) : pt m a 0 g = m := by
  funext i; unfold pt; rw [if_neg (by omega)]
theorem pt_succ (m g : Nat → Int) (a n : Nat) : (fun j => if j = a + n then g n else pt m a n g j) = pt m a (n + 1) g := by
  funext i
  unfold pt
  by_cases h : i = a + n
  · subst h; rw [if_pos rfl, if_pos (by omega)]; congr 1; omega
  · rw [if_neg h]
    by_cases h2 : a ≤ i ∧ i < a + n
    · rw [if_pos h2, if_pos (by omega)]
    · rw [if_neg h2, if_neg (by omega)]
/-- what is laid is what is read -/
theorem ld_pt_same (m : Nat → Int) (a n : Nat) (x : Int) : ld (pt m a n (by8 x)) a n = x % 256 ^ n := by
  rw [← ld_by8]; exact ld_congr fun i hi => by rw [pt_in hi, Nat.zero_add]
/-- what lies apart stays -/
theorem ld_pt_apart (m g : Nat → Int) (a n b k : Nat) (h : b + k ≤ a ∨ a + n ≤ b) : ld (pt m a n g) b k = ld m b k :=
  ld_congr fun i hi => pt_out (by omega)
theorem by8_mod (x : Int) (i n : Nat) (h : i < n) : by8 (x % 256 ^ n) i = by8 x i := by
  unfold by8
  obtain ⟨d, rfl⟩ : ∃ d, n = i + 1 + d := ⟨n - (i + 1), by omega⟩
  rw [Int.pow_add, Int.pow_succ]
  have hp := pow_pos i
  have hd := pow_pos d
  rw [show (256 : Int) ^ i * 256 * 256 ^ d = 256 ^ i * (256 * 256 ^ d) by rw [Int.mul_assoc]]
  rw [mod_mul _ _ _ hp (by omega), Int.add_mul_ediv_left _ _ (by omega), Int.ediv_eq_zero_of_lt (Int.emod_nonneg _ (by omega)) (Int.emod_lt_of_pos _ hp), Int.zero_add,
    Int.emod_emod_of_dvd _ ⟨256 ^ d, rfl⟩]
theorem pt_congr {m g g' : Nat → Int} {a n : Nat} (h : ∀ i, i < n → g i = g' i) : pt m a n g = pt m a n g' := by
  funext i; unfold pt; split
  · exact h _ (by omega)
  · rfl
end Mm

namespace Mm
theorem toNat_small {n : Nat} {a : Nat} (h : a < 2 ^ n) : (BitVec.ofInt n (a : Int)).toNat = a := by
  rw [BitVec.toNat_ofInt]
  have e : (a : Int) % ((2 ^ n : Nat) : Int) = ((a % 2 ^ n : Nat) : Int) := by rw [Int.natCast_emod]
  rw [e, Int.toNat_natCast, Nat.mod_eq_of_lt h]
theorem wrap_small {k : IntKind} (hk : k.signed = false) {a : Nat} (h : a < 2 ^ k.bits) : k.wrap (a : Int) = a := by
  unfold IntKind.wrap
  have e : (a : Int) % 2 ^ k.bits = (a : Int) := by
    refine Int.emod_eq_of_lt (Int.natCast_nonneg _) ?_
    have : ((a : Nat) : Int) < ((2 ^ k.bits : Nat) : Int) := by exact_mod_cast h
    simpa using this
  simp [hk, e]
theorem bits_or {k : IntKind} (hk : k.signed = false) {a c : Nat} (ha : a < 2 ^ k.bits) (hc : c < 2 ^ k.bits) : bits .or k (a : Int) (c : Int) = ((a ||| c : Nat) : Int) := by
  show k.wrap ((BitVec.ofInt k.bits (a : Int) ||| BitVec.ofInt k.bits (c : Int)).toNat : Int) = _
  rw [BitVec.toNat_or, toNat_small ha, toNat_small hc]
  exact wrap_small hk (Nat.or_lt_two_pow ha hc)
theorem bits_and {k : IntKind} (hk : k.signed = false) {a c : Nat} (ha : a < 2 ^ k.bits) (hc : c < 2 ^ k.bits) : bits .and k (a : Int) (c : Int) = ((a &&& c : Nat) : Int) := by
  show k.wrap ((BitVec.ofInt k.bits (a : Int) &&& BitVec.ofInt k.bits (c : Int)).toNat : Int) = _
  rw [BitVec.toNat_and, toNat_small ha, toNat_small hc]
  exact wrap_small hk (Nat.lt_of_le_of_lt Nat.and_le_left ha)
/-- bits that lie apart: the sum -/
theorem or_high {k : IntKind} (hk : k.signed = false) {x y : Int} {j : Nat} (x1 : 0 ≤ x) (x2 : x < 2 ^ j) (y1 : 0 ≤ y) (h : x + y * 2 ^ j < 2 ^ k.bits) : bits .or k x (y * 2 ^ j) = x + y * 2 ^ j := by
  obtain ⟨a, rfl⟩ := Int.eq_ofNat_of_zero_le x1
  obtain ⟨c, rfl⟩ := Int.eq_ofNat_of_zero_le y1
  have x2' : a < 2 ^ j := by exact_mod_cast x2
  have h' : a + c * 2 ^ j < 2 ^ k.bits := by exact_mod_cast h
  have e : ((c : Int) * 2 ^ j) = ((c * 2 ^ j : Nat) : Int) := by simp
  rw [e, bits_or hk (by omega) (by omega), Nat.or_comm, ← Nat.shiftLeft_eq, ← Nat.shiftLeft_add_eq_or_of_lt x2']
  rw [Nat.shiftLeft_eq]; omega
theorem or_low {k : IntKind} (hk : k.signed = false) {x y : Int} {j : Nat} (x1 : 0 ≤ x) (x2 : x < 2 ^ j) (y1 : 0 ≤ y) (h : x + y * 2 ^ j < 2 ^ k.bits) : bits .or k (y * 2 ^ j) x = x + y * 2 ^ j := by
  obtain ⟨a, rfl⟩ := Int.eq_ofNat_of_zero_le x1
  obtain ⟨c, rfl⟩ := Int.eq_ofNat_of_zero_le y1
  have x2' : a < 2 ^ j := by exact_mod_cast x2
  have h' : a + c * 2 ^ j < 2 ^ k.bits := by exact_mod_cast h
  have e : ((c : Int) * 2 ^ j) = ((c * 2 ^ j : Nat) : Int) := by simp
  rw [e, bits_or hk (by omega) (by omega), ← Nat.shiftLeft_eq, ← Nat.shiftLeft_add_eq_or_of_lt x2']
  rw [Nat.shiftLeft_eq]; omega
theorem pow8 (k : Nat) : (2 : Int) ^ (8 * k) = 256 ^ k := by rw [Int.pow_mul]; rfl
theorem and_255 {x : Int} (x1 : 0 ≤ x) (x2 : x < 18446744073709551616) : bits .and .u64 x 255 = x % 256 := by
  obtain ⟨a, rfl⟩ := Int.eq_ofNat_of_zero_le x1
  have h : a < 2 ^ IntKind.u64.bits := by show a < 2 ^ 64; omega
  show bits .and .u64 (a : Int) ((255 : Nat) : Int) = _
  rw [bits_and rfl h (by decide)]
  have : a &&& 255 = a % 256 := Nat.and_two_pow_sub_one_eq_mod a 8
  rw [this]; simp
/-- one byte more, as the loop lays it -/
theorem read_step {kd : IntKind} (hk : kd.signed = false) {x y : Int} {k : Nat} (x1 : 0 ≤ x) (x2 : x < 256 ^ k) (y1 : 0 ≤ y) (y2 : y < 256) (h : 256 ^ (k + 1) ≤ (2 : Int) ^ kd.bits) :
    bits .or kd x (kd.wrap (y * 2 ^ (8 * k))) = x + y * 256 ^ k := by
  have hp := pow_pos k
  rw [Int.pow_succ] at h
  have h2 : y * 256 ^ k ≤ 255 * 256 ^ k := Int.mul_le_mul_of_nonneg_right (by omega) (by omega)
  have h1 : 0 ≤ y * 256 ^ k := Int.mul_nonneg y1 (by omega)
  have e : kd.wrap (y * 2 ^ (8 * k)) = y * 2 ^ (8 * k) := by
    rw [pow8]
    obtain ⟨c, hc⟩ := Int.eq_ofNat_of_zero_le h1
    rw [hc]; refine wrap_small hk ?_
    have : ((c : Nat) : Int) < 2 ^ kd.bits := by omega
    exact_mod_cast this
  rw [e, or_high hk x1 (by rw [pow8]; exact x2) y1 (by rw [pow8]; omega), pow8]
end Mm

/-- the n cells from the address on hold the bytes g -/
def Bs (w : World) (ao : Option Addr) (n : Nat) (g : Nat → Int) : Prop :=
  n = 0 ∨ ∃ b off, ao = some ⟨b, off, none⟩ ∧ ∀ i, i < n → w.cell? ⟨b, off + i, none⟩ = some (.int .u8 (g i))

/-- a memory: the struct's block B holds a slice of all S bytes that lie in block D -/
structure IsMem (t : TypeId) (w : World) (B D S : Nat) (m : Nat → Int) : Prop where
  head : w.rowIs B t 1 (fun _ => .slice (some ⟨D, 0, none⟩) S S)
  row : w.rowIs D 5 S (fun i => .int .u8 (m i))
  fit : Mm.Fit m

theorem IsMem.kept {t : TypeId} {w w' : World} {B D S : Nat} {m : Nat → Int} {row : Option Nat} (h : IsMem t w B D S m) (hg : w.grownBy w' row) (h1 : some B ≠ row) (h2 : some D ≠ row) : IsMem t w' B D S m :=
  ⟨h.head.of_block (hg.block B h.head.lt h1), h.row.of_block (hg.block D h.row.lt h2), h.fit⟩

theorem IsMem.below {t : TypeId} {w w' : World} {B D S N : Nat} {m : Nat → Int} (h : IsMem t w B D S m) (hg : Below N w w') (h1 : B < N) (h2 : D < N) : IsMem t w' B D S m :=
  ⟨h.head.of_block (hg.block B h1), h.row.of_block (hg.block D h2), h.fit⟩

theorem grown_trans {w w' w'' : World} {row : Option Nat} (h : w.grownBy w' row) (k : w'.grownBy w'' row) : w.grownBy w'' row :=
  ⟨k.os.trans h.os, k.tape.trans h.tape, k.output.trans h.output, Nat.le_trans h.size k.size, fun i hi hr => (k.block i (Nat.lt_of_lt_of_le hi h.size) hr).trans (h.block i hi hr)⟩
theorem gtr {w w' w'' : World} {row : Option Nat} (h : w.grownBy w' row) (k : w'.grownBy w'' row) : w.grownBy w'' row := grown_trans h k
theorem gal {w : World} {o : Obj} {row : Option Nat} : w.grownBy (w.alloc o) row := World.grownBy_alloc _ _ _
theorem gr0 {w : World} {row : Option Nat} : w.grownBy w row := World.grownBy.refl _ _
theorem grown_setCell (w : World) (b i : Nat) (v : Value) : w.grownBy (w.setCell ⟨b, i, none⟩ v) (some b) :=
  ⟨rfl, rfl, rfl, by simp [World.setCell], fun k hk hr => Below.heap_setCell _ _ _ _ (fun e => hr (by rw [e]))⟩
theorem grown_drewN {w w' : World} {row : Option Nat} (h : w.grownBy w' row) (n : Nat) : w.grownBy (w'.drewN n) row := by
  refine grown_trans h ?_
  induction n with
  | zero => exact ⟨rfl, rfl, rfl, Nat.le_refl _, fun _ _ _ => rfl⟩
  | succ n ih => exact grown_trans ih ⟨rfl, rfl, rfl, Nat.le_refl _, fun _ _ _ => rfl⟩
theorem grown_two {w w1 w2 : World} {b : Nat} (hg1 : w.grownBy w1 none) (hg2 : w1.grownBy w2 (some b)) (hb : w.heap.size ≤ b) : w.grownBy w2 none := by
  refine ⟨hg2.os.trans hg1.os, hg2.tape.trans hg1.tape, hg2.output.trans hg1.output, Nat.le_trans hg1.size hg2.size, fun k hk _ => ?_⟩
  have hne : some k ≠ some b := by intro e; injection e with e; omega
  exact (hg2.block k (Nat.lt_of_lt_of_le hk hg1.size) hne).trans (hg1.block k hk (by simp))
theorem grown_noneR {w w1 : World} (row : Option Nat) (h : w.grownBy w1 none) : w.grownBy w1 row := ⟨h.os, h.tape, h.output, h.size, fun k hk _ => h.block k hk (by simp)⟩
end Go.Proofs.Ytbpdggdpgohilaa
namespace Go.Proofs.Ytbpdggdpgohilaa
set_option linter.unusedVariables false
/-- an instruction's nine numbers -/
structure InV where
  op : Int
  a : Int
  b : Int
  c : Int
  k : Int
  sub : Int
  scale : Int
  imm : Int
  label : Int

namespace Rc
/-- which fields a code uses: the page's letters -/
def fld (op : Int) : ByteArray :=
  if op = 1 ∨ op = 2 ∨ op = 20 ∨ op = 21 then ⟨#[65, 73]⟩ else if op = 3 ∨ op = 26 then ⟨#[65, 66]⟩ else if op = 4 then ⟨#[65, 66, 67, 75, 83]⟩
  else if op = 7 ∨ op = 8 then ⟨#[65, 66, 75, 83]⟩ else if op = 9 then ⟨#[65, 66, 73]⟩ else if op = 11 ∨ op = 13 then ⟨#[65, 66, 75, 73]⟩
  else if op = 15 then ⟨#[65, 66, 67, 73]⟩ else if op = 19 ∨ op = 23 ∨ op = 25 ∨ op = 29 then ⟨#[73]⟩ else if op = 27 ∨ op = 28 then ⟨#[65]⟩ else if op = 24 then ⟨#[45]⟩ else ⟨#[]⟩
def hasS (s : ByteArray) (c : Int) : Bool := s.data.toList.any (fun b => (b.toNat : Int) == c)
def regB (n : Int) : Bool := decide (0 ≤ n) && decide (n < 16)
def smallB (n : Int) : Bool := decide (-2147483648 ≤ n) && decide (n < 2147483648)
def kindB (v : InV) : Bool :=
  if v.op = 4 then Wd.hasBinB v.sub v.k else if v.op = 7 then Wd.hasUnB v.sub v.k else if v.op = 8 then Wd.numB v.sub && Wd.numB v.k else if v.op = 11 ∨ v.op = 13 then Wd.wordB v.k
  else if v.op = 15 then decide (0 ≤ v.imm) && decide (v.imm < 16) else if v.op = 25 then decide (0 ≤ v.imm) else if v.op = 29 then decide (0 < v.imm) else true
/-- is it an instruction of R64? -/
def mayB (v : InV) : Bool :=
  !(fld v.op).data.isEmpty && v.scale == 0 && v.label == 0 && regB v.a && regB v.b && regB v.c && smallB v.imm &&
  (hasS (fld v.op) 65 || v.a == 0) && (hasS (fld v.op) 66 || v.b == 0) && (hasS (fld v.op) 67 || v.c == 0) && (hasS (fld v.op) 75 || v.k == 0) && (hasS (fld v.op) 83 || v.sub == 0) && (hasS (fld v.op) 73 || v.imm == 0) && kindB v
def cc (v : InV) : Int := if v.op = 11 ∨ v.op = 13 then v.k else v.c
def nn (v : InV) : Int := if v.op = 4 ∨ v.op = 7 ∨ v.op = 8 then v.k + 256 * v.sub else v.imm
/-- its bytes -/
def enc (v : InV) (i : Nat) : Int :=
  if i = 0 then v.op % 256 else if i = 1 then v.a % 256 else if i = 2 then v.b % 256 else if i = 3 then cc v % 256 else Mm.by8 (nn v % 4294967296) (i - 4)
/-- a number of 32 bits, signed -/
def s32 (u : Int) : Int := (u + 2147483648) % 4294967296 - 2147483648
/-- what eight bytes say, if that is an instruction -/
def rd (g : Nat → Int) : InV :=
  let n := s32 (Mm.ld g 4 4)
  if g 0 = 4 ∨ g 0 = 7 ∨ g 0 = 8 then ⟨g 0, g 1, g 2, g 3, n % 256, n / 256, 0, 0, 0⟩
  else if g 0 = 11 ∨ g 0 = 13 then ⟨g 0, g 1, g 2, 0, g 3, 0, 0, n, 0⟩ else ⟨g 0, g 1, g 2, g 3, 0, 0, 0, n, 0⟩
def wideB (g : Nat → Int) : Bool := (g 0 == 4 || g 0 == 7 || g 0 == 8) && (decide (s32 (Mm.ld g 4 4) < 0) || decide (65536 ≤ s32 (Mm.ld g 4 4)))
def okB (g : Nat → Int) : Bool := !wideB g && mayB (rd g)

theorem codes (v : InV) (h : mayB v = true) : v.op = 1 ∨ v.op = 2 ∨ v.op = 3 ∨ v.op = 4 ∨ v.op = 7 ∨ v.op = 8 ∨ v.op = 9 ∨ v.op = 11 ∨ v.op = 13 ∨ v.op = 15 ∨ v.op = 19 ∨ v.op = 20 ∨ v.op = 21 ∨ v.op = 23 ∨ v.op = 24 ∨ v.op = 25 ∨ v.op = 26 ∨ v.op = 27 ∨ v.op = 28 ∨ v.op = 29 := by
  by_cases hh : (v.op = 1 ∨ v.op = 2 ∨ v.op = 3 ∨ v.op = 4 ∨ v.op = 7 ∨ v.op = 8 ∨ v.op = 9 ∨ v.op = 11 ∨ v.op = 13 ∨ v.op = 15 ∨ v.op = 19 ∨ v.op = 20 ∨ v.op = 21 ∨ v.op = 23 ∨ v.op = 24 ∨ v.op = 25 ∨ v.op = 26 ∨ v.op = 27 ∨ v.op = 28 ∨ v.op = 29)
  · exact hh
  · exfalso
    have e : fld v.op = ⟨#[]⟩ := by
      unfold fld
      rw [if_neg (by omega), if_neg (by omega), if_neg (by omega), if_neg (by omega), if_neg (by omega), if_neg (by omega), if_neg (by omega), if_neg (by omega), if_neg (by omega), if_neg (by omega)]
    unfold mayB at h
    rw [e] at h
    simp at h

theorem ld_enc (v : InV) : Mm.ld (enc v) 4 4 = nn v % 4294967296 := by
  have h : Mm.ld (enc v) 4 4 = Mm.ld (Mm.by8 (nn v % 4294967296)) 0 4 := Mm.ld_congr fun i hi => by
    unfold enc
    rw [if_neg (by omega), if_neg (by omega), if_neg (by omega), if_neg (by omega)]
    congr 1; omega
  rw [h, Mm.ld_by8]
  omega
theorem s32_mod (n : Int) (h1 : -2147483648 ≤ n) (h2 : n < 2147483648) : s32 (n % 4294967296) = n := by unfold s32; omega

/-- the ranges of an instruction's numbers -/
structure Rng (v : InV) : Prop where
  sc : v.scale = 0
  lb : v.label = 0
  a1 : 0 ≤ v.a
  a2 : v.a < 16
  b1 : 0 ≤ v.b
  b2 : v.b < 16
  c1 : 0 ≤ v.c
  c2 : v.c < 16
  i1 : -2147483648 ≤ v.imm
  i2 : v.imm < 2147483648
  u0 : hasS (fld v.op) 65 = true ∨ v.a = 0
  u1 : hasS (fld v.op) 66 = true ∨ v.b = 0
  u2 : hasS (fld v.op) 67 = true ∨ v.c = 0
  u3 : hasS (fld v.op) 75 = true ∨ v.k = 0
  u4 : hasS (fld v.op) 83 = true ∨ v.sub = 0
  u5 : hasS (fld v.op) 73 = true ∨ v.imm = 0
  kd : kindB v = true
theorem rng {v : InV} (h : mayB v = true) : Rng v := by
  unfold mayB regB smallB at h
  simp only [Bool.and_eq_true, Bool.or_eq_true, beq_iff_eq, decide_eq_true_eq] at h
  obtain ⟨⟨⟨⟨⟨⟨⟨⟨⟨⟨⟨⟨⟨h0, h1⟩, h2⟩, h3⟩, h4⟩, h5⟩, h6⟩, h7⟩, h8⟩, h9⟩, h10⟩, h11⟩, h12⟩, h13⟩ := h
  exact ⟨h1, h2, h3.1, h3.2, h4.1, h4.2, h5.1, h5.2, h6.1, h6.2, h7, h8, h9, h10, h11, h12, h13⟩

theorem bin_rng {op k : Int} (h : Wd.hasBinB op k = true) : 1 ≤ op ∧ op ≤ 16 ∧ 1 ≤ k ∧ k ≤ 11 := by
  unfold Wd.hasBinB Wd.intB Wd.cmpB at h; simp at h; omega
theorem un_rng {op k : Int} (h : Wd.hasUnB op k = true) : 1 ≤ op ∧ op ≤ 3 ∧ 1 ≤ k ∧ k ≤ 11 := by
  unfold Wd.hasUnB Wd.numB Wd.intB at h; simp at h; omega

theorem conv_rng {f t : Int} (h : (Wd.numB f && Wd.numB t) = true) : 2 ≤ f ∧ f ≤ 10 ∧ 2 ≤ t ∧ t ≤ 10 := by
  unfold Wd.numB at h; simp at h; omega
theorem word_rng {k : Int} (h : Wd.wordB k = true) : 1 ≤ k ∧ k ≤ 11 := by unfold Wd.wordB at h; simpa using h

/-- its bytes say it -/
theorem back (v : InV) (h : mayB v = true) : rd (enc v) = v ∧ wideB (enc v) = false := by
  have r := rng h
  have hc := codes v h
  have e0 : enc v 0 = v.op := by show v.op % 256 = _; omega
  have e1 : enc v 1 = v.a := by show v.a % 256 = _; have := r.a1; have := r.a2; omega
  have e2 : enc v 2 = v.b := by show v.b % 256 = _; have := r.b1; have := r.b2; omega
  have e3 : enc v 3 = cc v % 256 := rfl
  obtain ⟨op, a, b, c, k, sub, sc, imm, lb⟩ := v
  obtain ⟨h1, h2, a1, a2, b1, b2, c1, c2, i1, i2, u0, u1, u2, u3, u4, u5, kd⟩ := r
  dsimp only at *
  subst h1 h2
  rcases hc with rfl | rfl | rfl | rfl | rfl | rfl | rfl | rfl | rfl | rfl | rfl | rfl | rfl | rfl | rfl | rfl | rfl | rfl | rfl | rfl
  all_goals try (replace u0 := u0.resolve_left (by decide))
  all_goals try (replace u1 := u1.resolve_left (by decide))
  all_goals try (replace u2 := u2.resolve_left (by decide))
  all_goals try (replace u3 := u3.resolve_left (by decide))
  all_goals try (replace u4 := u4.resolve_left (by decide))
  all_goals try (replace u5 := u5.resolve_left (by decide))
  all_goals try (replace kd := bin_rng (show Wd.hasBinB sub k = true from kd))
  all_goals try (replace kd := un_rng (show Wd.hasUnB sub k = true from kd))
  all_goals try (replace kd := conv_rng (show (Wd.numB sub && Wd.numB k) = true from kd))
  all_goals try (replace kd := word_rng (show Wd.wordB k = true from kd))
  all_goals
    unfold rd wideB
    rw [e0, e1, e2, e3, ld_enc]
    simp only [nn, cc, Int.reduceEq, or_self, or_false, or_true, if_true, if_false]
    rw [s32_mod _ (by omega) (by omega)]
    refine ⟨?_, ?_⟩
    · simp only [InV.mk.injEq, true_and, and_true]; omega
    · first | rfl | (simp; done) | (simp; omega)
theorem ok_enc (v : InV) (h : mayB v = true) : okB (enc v) = true := by
  have b := back v h
  unfold okB; rw [b.1, b.2, h]; rfl
theorem rd_congr {g g' : Nat → Int} (h : ∀ i, i < 8 → g i = g' i) : rd g = rd g' ∧ okB g = okB g' := by
  have l : Mm.ld g 4 4 = Mm.ld g' 4 4 := Mm.ld_congr fun i hi => h _ (by omega)
  have r : rd g = rd g' := by unfold rd; rw [l, h 0 (by omega), h 1 (by omega), h 2 (by omega), h 3 (by omega)]
  refine ⟨r, ?_⟩
  unfold okB wideB
  rw [r, l, h 0 (by omega)]
/-- no two instructions have the same bytes -/
theorem inj {u v : InV} (hu : mayB u = true) (hv : mayB v = true) (h : ∀ i, i < 8 → enc u i = enc v i) : u = v := by
  rw [← (back u hu).1, ← (back v hv).1, (rd_congr h).1]
theorem enc_fit (v : InV) : Mm.Fit (enc v) := by
  intro i; unfold enc
  repeat' split
  all_goals first | omega | exact Mm.by8_rng _ _
theorem rd_rng {g : Nat → Int} (hg : Mm.Fit g) : 0 ≤ (rd g).op ∧ (rd g).op < 256 ∧ 0 ≤ (rd g).a ∧ (rd g).a < 256 ∧ 0 ≤ (rd g).b ∧ (rd g).b < 256 := by
  have h0 := hg 0
  have h1 := hg 1
  have h2 := hg 2
  unfold rd
  dsimp only
  repeat' split
  all_goals (dsimp only; omega)
end Rc
end Go.Proofs.Ytbpdggdpgohilaa
namespace Go.Proofs.Ytbpdggdpgohilaa
open Go.RowKit
set_option linter.unusedVariables false
namespace Mm
theorem and_255i (n : Int) : bits .and .i64 n 255 = n % 256 := by
  show IntKind.i64.wrap ((BitVec.ofInt 64 n &&& BitVec.ofInt 64 255).toNat : Int) = _
  have e : (BitVec.ofInt 64 n &&& BitVec.ofInt 64 255).toNat = (n % 256).toNat := by
    rw [BitVec.toNat_and, BitVec.toNat_ofInt, show (BitVec.ofInt 64 255).toNat = 2 ^ 8 - 1 from rfl, Nat.and_two_pow_sub_one_eq_mod]
    omega
  rw [e, IntKind.wrap_i64]
  omega
end Mm
namespace Rc
theorem has_true {s : ByteArray} {c : Int} {k : Nat} (hk : k < s.size) (h : ((s[k].toNat : Int) == c) = true) : hasS s c = true := by
  unfold hasS
  rw [List.any_eq_true]
  exact ⟨s[k], by simp [ByteArray.getElem_eq_getElem_data], h⟩
theorem has_false {s : ByteArray} {c : Int} (h : ∀ k (hk : k < s.size), ((s[k].toNat : Int) == c) = false) : hasS s c = false := by
  unfold hasS
  rw [List.any_eq_false]
  intro x hx
  obtain ⟨k, hk, rfl⟩ := List.getElem_of_mem hx
  have := h k (by simpa using hk)
  rw [ByteArray.getElem_eq_getElem_data] at this
  simp only [Array.getElem_toList]
  rw [this]; simp
end Rc

/-- a form's five numbers -/
structure FmV where
  code : Int
  a : Int
  b : Int
  c : Int
  n : Int
namespace Rc
def pk (v : InV) : FmV :=
  if v.op = 1 ∨ v.op = 2 ∨ v.op = 20 ∨ v.op = 21 then ⟨v.op, v.a, 0, 0, v.imm⟩ else if v.op = 3 ∨ v.op = 26 then ⟨v.op, v.a, v.b, 0, 0⟩
  else if v.op = 4 then ⟨v.op, v.a, v.b, v.c, wrap64 (v.k + 256 * v.sub)⟩ else if v.op = 7 ∨ v.op = 8 then ⟨v.op, v.a, v.b, 0, wrap64 (v.k + 256 * v.sub)⟩
  else if v.op = 9 then ⟨v.op, v.a, v.b, 0, v.imm⟩ else if v.op = 11 ∨ v.op = 13 then ⟨v.op, v.a, v.b, v.k, v.imm⟩ else if v.op = 15 then ⟨v.op, v.a, v.b, v.c, v.imm⟩
  else if v.op = 19 ∨ v.op = 23 ∨ v.op = 25 ∨ v.op = 29 then ⟨v.op, 0, 0, 0, v.imm⟩ else if v.op = 27 ∨ v.op = 28 then ⟨v.op, v.a, 0, 0, 0⟩ else if v.op = 24 then ⟨v.op, 0, 0, 0, 0⟩ else ⟨0, 0, 0, 0, 0⟩
def unpk (f : FmV) : InV :=
  if f.code = 1 ∨ f.code = 2 ∨ f.code = 20 ∨ f.code = 21 then ⟨f.code, f.a, 0, 0, 0, 0, 0, f.n, 0⟩ else if f.code = 3 ∨ f.code = 26 then ⟨f.code, f.a, f.b, 0, 0, 0, 0, 0, 0⟩
  else if f.code = 4 then ⟨f.code, f.a, f.b, f.c, f.n % 256, f.n / 256, 0, 0, 0⟩ else if f.code = 7 ∨ f.code = 8 then ⟨f.code, f.a, f.b, 0, f.n % 256, f.n / 256, 0, 0, 0⟩
  else if f.code = 9 then ⟨f.code, f.a, f.b, 0, 0, 0, 0, f.n, 0⟩ else if f.code = 11 ∨ f.code = 13 then ⟨f.code, f.a, f.b, 0, f.c, 0, 0, f.n, 0⟩ else if f.code = 15 then ⟨f.code, f.a, f.b, f.c, 0, 0, 0, f.n, 0⟩
  else if f.code = 19 ∨ f.code = 23 ∨ f.code = 25 ∨ f.code = 29 then ⟨f.code, 0, 0, 0, 0, 0, 0, f.n, 0⟩ else if f.code = 27 ∨ f.code = 28 then ⟨f.code, f.a, 0, 0, 0, 0, 0, 0, 0⟩ else if f.code = 24 then ⟨f.code, 0, 0, 0, 0, 0, 0, 0, 0⟩ else ⟨0, 0, 0, 0, 0, 0, 0, 0, 0⟩
end Rc
/-- as values -/
def inst (v : InV) : Value := .agg #[.int .i64 v.op, .int .i64 v.a, .int .i64 v.b, .int .i64 v.c, .int .i64 v.k, .int .i64 v.sub, .int .i64 v.scale, .int .i64 v.imm, .int .i64 v.label]
def formv (f : FmV) : Value := .agg #[.int .i64 f.code, .int .i64 f.a, .int .i64 f.b, .int .i64 f.c, .int .i64 f.n]

namespace Rc
theorem ops (o : Int) : o = 1 ∨ o = 2 ∨ o = 20 ∨ o = 21 ∨ o = 3 ∨ o = 26 ∨ o = 4 ∨ o = 7 ∨ o = 8 ∨ o = 9 ∨ o = 11 ∨ o = 13 ∨ o = 15 ∨ o = 19 ∨ o = 23 ∨ o = 25 ∨ o = 29 ∨ o = 27 ∨ o = 28 ∨ o = 24 ∨ ((o == 1) = false ∧ (o == 2) = false ∧ (o == 20) = false ∧ (o == 21) = false ∧ (o == 3) = false ∧ (o == 26) = false ∧ (o == 4) = false ∧ (o == 7) = false ∧ (o == 8) = false ∧ (o == 9) = false ∧ (o == 11) = false ∧ (o == 13) = false ∧ (o == 15) = false ∧ (o == 19) = false ∧ (o == 23) = false ∧ (o == 25) = false ∧ (o == 29) = false ∧ (o == 27) = false ∧ (o == 28) = false ∧ (o == 24) = false) := by
  by_cases h : (o = 1 ∨ o = 2 ∨ o = 20 ∨ o = 21 ∨ o = 3 ∨ o = 26 ∨ o = 4 ∨ o = 7 ∨ o = 8 ∨ o = 9 ∨ o = 11 ∨ o = 13 ∨ o = 15 ∨ o = 19 ∨ o = 23 ∨ o = 25 ∨ o = 29 ∨ o = 27 ∨ o = 28 ∨ o = 24)
  · omega
  · simp only [not_or] at h
    simp only [beq_eq_false_iff_ne]
    right; simp only [ne_eq]; omega
end Rc
theorem ret_v {a b : Value} (h : a = b) : Ending.returned a = .returned b := by rw [h]
theorem grown_alloc2 (w : World) (a b : Obj) : w.grownBy ((w.alloc a).alloc b) none := grown_trans (World.grownBy_alloc _ _ _) (World.grownBy_alloc _ _ _)

theorem grown_drew {w w' : World} {row : Option Nat} (h : w.grownBy w' row) : w.grownBy w'.drew row := grown_trans h ⟨rfl, rfl, rfl, Nat.le_refl _, fun _ _ _ => rfl⟩
theorem tail_drew {P : Program} {id : Nat} {Q : Exit → Act → World → Prop} {a : Act} {w : World} {l : List Oper} (n : Nat) (hm : P.follows .mixedOrders = true) (hB : Region.lexTailB .any l.toArray n = true)
    (h : wpStill P l.toArray w.drew (fun a' => wpList P l.toArray Q (l.drop n) a' w.drew) (l.take n) a) : (Code.region id l.toArray true).wp P Q a w := wp_region_still_tail n hm hB h
theorem ga {w w1 : World} (h : w.grownBy w1 none) (o : Obj) : w.grownBy (w1.alloc o) none := grown_trans h (World.grownBy_alloc _ _ _)
theorem gs {w w1 : World} (h : w.grownBy w1 none) {b : Nat} (i : Nat) (v : Value) (hb : w.heap.size ≤ b) : w.grownBy (w1.setCell ⟨b, i, none⟩ v) none := grown_two h (grown_setCell _ _ _ _) hb
theorem gn {w w1 : World} (h : w.grownBy w1 none) (n : Nat) : w.grownBy (w1.drewN n) none := grown_drewN h n
theorem still_of_quiet {P : Program} {ops : Array Oper} {w : World} {Q : Act → Prop} : ∀ (l : List Oper) (a : Act), wpQuiet P ops (fun w' => w' = w) Q l a → wpStill P ops w Q l a
  | [], _, h => h
  | o :: rest, a, h => by
    unfold wpQuiet at h
    unfold wpStill
    split
    · rename_i hw
      rw [if_pos hw] at h
      obtain ⟨v, h1, h2⟩ := h
      have h3 := h1 w rfl
      have h4 := still_of_quiet rest _ h2
      unfold Oper.quietAt at h3
      unfold Oper.still
      generalize (execOp a.eval o).run P w = r at h3
      match r, h3 with
      | .ok (.value u) w', h3 => obtain ⟨e1, e2⟩ := h3; exact ⟨e1, by rw [e2]; exact h4⟩
      | .ok .skip w', h3 => obtain ⟨e1, e2⟩ := h3; exact ⟨e1, by rw [← e2]; exact h4⟩
      | .ok (.enter f args) w', h3 => obtain ⟨e1, e2⟩ := h3; exact ⟨e1, v, e2, h4⟩
    · rename_i hw
      rw [if_neg hw] at h
      exact still_of_quiet rest _ h

theorem tail_quiet {P : Program} {id : Nat} {Q : Exit → Act → World → Prop} {a : Act} {w : World} {l : List Oper} (n : Nat) (hm : P.follows .mixedOrders = true) (hB : Region.lexTailB .any l.toArray n = true)
    (h : wpQuiet P l.toArray (fun w' => w' = w.drew) (fun a' => wpList P l.toArray Q (l.drop n) a' w.drew) (l.take n) a) : (Code.region id l.toArray true).wp P Q a w :=
  tail_drew n hm hB (still_of_quiet _ _ h)

/-- a world that has grown out of W -/
structure Gw (W : World) where
  w : World
  h : W.grownBy w none

/-- A region that draws its order, whose operations read what stood in W or call what only makes new memory: one walk of the lexical order. -/
theorem region_grown {P : Program} {id : Nat} {Q : Exit → Act → World → Prop} {a : Act} {w : World} {l : List Oper} (hm : P.follows .mixedOrders = true) (hB : Region.lexB .any l.toArray = true)
    (h : wpQuiet P l.toArray (fun w' => ∃ x : Gw w, w' = x.w) (fun a' => ∀ w', (∃ x : Gw w, w' = x.w) → Q .normal a' w') l a) : (Code.region id l.toArray true).wp P Q a w :=
  wp_region_quiet (C := fun w' => ∃ x : Gw w, w' = x.w) hm hB ⟨⟨w.drew, grown_drew (World.grownBy.refl _ _)⟩, rfl⟩ (by simpa using h)
theorem Gw.call {P : Program} {f : FuncId} {args : Array Value} {W : World} {x : Gw W} {v : Value}
    (h : Calls P f args x.w fun e w' => e = .returned v ∧ x.w.grownBy w' none) : Calls P f args x.w fun e w'' => e = .returned v ∧ ∃ y : Gw W, w'' = y.w :=
  h.mono fun _ w'' ⟨he, hg⟩ => ⟨he, ⟨w'', grown_trans x.h hg⟩, rfl⟩

end Go.Proofs.Ytbpdggdpgohilaa
