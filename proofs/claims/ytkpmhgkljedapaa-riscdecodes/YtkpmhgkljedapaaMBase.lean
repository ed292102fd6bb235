/- Bytes and memories: what a row of bytes holds, as a function of the index; what a number's bytes are. No Go here. -/
import Derived.Test.YtkpmhgkljedapaaRSmall
import Derived.Deep.OwnRows
import Derived.Below
namespace Go.Proofs.Ytkpmhgkljedapaa
open Go.RowKit
set_option linter.unusedVariables false

namespace Mm
/-- the number that n bytes from a on are, the lowest one first -/
def ld (m : Nat → Int) (a : Nat) : Nat → Int
  | 0 => 0
  | n + 1 => ld m a n + m (a + n) * 256 ^ n
/-- a number's byte -/
def by8 (x : Int) (i : Nat) : Int := x / 256 ^ i % 256
/-- n bytes g laid from a on -/
def pt (m : Nat → Int) (a n : Nat) (g : Nat → Int) : Nat → Int := fun i => if a ≤ i ∧ i < a + n then g (i - a) else m i
/-- do all numbers fit a byte? -/
def Fit (m : Nat → Int) : Prop := ∀ i, 0 ≤ m i ∧ m i < 256

theorem mod_mul (x a b : Int) (ha : 0 < a) (hb : 0 < b) : x % (a * b) = x % a + a * (x / a % b) := by
  have h1 := Int.mul_ediv_add_emod x a
  have h2 := Int.mul_ediv_add_emod (x / a) b
  have h3 := Int.emod_nonneg x (show a ≠ 0 by omega)
  have h4 := Int.emod_lt_of_pos x ha
  have h5 := Int.emod_nonneg (x / a) (show b ≠ 0 by omega)
  have h6 := Int.emod_lt_of_pos (x / a) hb
  have e : x = (x % a + a * (x / a % b)) + a * b * (x / a / b) := by
    have : a * (x / a) = a * (b * (x / a / b)) + a * (x / a % b) := by rw [← Int.mul_add, h2]
    rw [Int.mul_assoc]; omega
  have k1 : 0 ≤ a * (x / a % b) := Int.mul_nonneg (by omega) h5
  have k2 : a * (x / a % b) ≤ a * (b - 1) := Int.mul_le_mul_of_nonneg_left (by omega) (by omega)
  rw [Int.mul_sub, Int.mul_one] at k2
  have k3 : (x % a + a * (x / a % b) + a * b * (x / a / b)) % (a * b) = x % a + a * (x / a % b) := by
    rw [Int.add_mul_emod_self_left]
    exact Int.emod_eq_of_lt (by omega) (by omega)
  rw [← e] at k3
  exact k3
theorem pow_pos (n : Nat) : (0 : Int) < 256 ^ n := Int.pow_pos (by omega)
theorem ld_zero (m : Nat → Int) (a : Nat) : ld m a 0 = 0 := rfl
theorem ld_succ (m : Nat → Int) (a n : Nat) : ld m a (n + 1) = ld m a n + m (a + n) * 256 ^ n := rfl
theorem ld_rng {m : Nat → Int} (hm : Fit m) (a n : Nat) : 0 ≤ ld m a n ∧ ld m a n < 256 ^ n := by
  induction n with
  | zero => simp [ld]
  | succ n ih =>
    have hp := pow_pos n
    have h := hm (a + n)
    rw [ld_succ, Int.pow_succ]
    have h1 : 0 ≤ m (a + n) * 256 ^ n := Int.mul_nonneg h.1 (by omega)
    have h2 : m (a + n) * 256 ^ n ≤ 255 * 256 ^ n := Int.mul_le_mul_of_nonneg_right (by omega) (by omega)
    omega
theorem ld_congr {m m' : Nat → Int} {a a' n : Nat} (h : ∀ i, i < n → m (a + i) = m' (a' + i)) : ld m a n = ld m' a' n := by
  induction n with
  | zero => rfl
  | succ n ih => rw [ld_succ, ld_succ, ih (fun i hi => h i (by omega)), h n (by omega)]
theorem ld_shift (m : Nat → Int) (a n : Nat) : ld m a n = ld (fun i => m (a + i)) 0 n := ld_congr fun i _ => by simp
/-- from the highest byte on -/
theorem ld_high (m : Nat → Int) (a n : Nat) : ld m a (n + 1) = m a + ld m (a + 1) n * 256 := by
  induction n with
  | zero => simp [ld]
  | succ n ih =>
    rw [ld_succ, ih, ld_succ m (a + 1) n, Int.add_mul, Int.pow_succ, show a + 1 + n = a + (n + 1) by omega, Int.mul_assoc (m (a + (n + 1)))]
    omega
theorem by8_rng (x : Int) (i : Nat) : 0 ≤ by8 x i ∧ by8 x i < 256 := by unfold by8; omega
theorem by8_fit (x : Int) : Fit (by8 x) := by8_rng x
theorem pt_fit {m g : Nat → Int} (hm : Fit m) (hg : Fit g) (a n : Nat) : Fit (pt m a n g) := by
  intro i; unfold pt; split
  · exact hg _
  · exact hm _
theorem ld_by8 (x : Int) (n : Nat) : ld (by8 x) 0 n = x % 256 ^ n := by
  induction n with
  | zero => simp [ld, Int.emod_one]
  | succ n ih =>
    rw [ld_succ, ih, Nat.zero_add, Int.pow_succ, mod_mul _ _ _ (pow_pos n) (by omega)]
    unfold by8
    rw [Int.mul_comm]
theorem pt_in {m g : Nat → Int} {a n i : Nat} (h : i < n) : pt m a n g (a + i) = g i := by
  unfold pt; rw [if_pos (by omega)]; congr 1; omega
theorem pt_out {m g : Nat → Int} {a n i : Nat} (h : i < a ∨ a + n ≤ i) : pt m a n g i = m i := by
  unfold pt; rw [if_neg (by omega)]
theorem pt_zero (m g : Nat → Int) (a : Nat) : pt m a 0 g = m := by
  funext i; unfold pt; rw [if_neg (by omega)]
theorem pt_succ (m g : Nat → Int) (a n : Nat) : (fun j => if j = a + n then g n else pt m a n g j) = pt m a (n + 1) g := by
  funext i
  unfold pt
  by_cases h : i = a + n
  · subst h; rw [if_pos rfl, if_pos (by omega)]; congr 1; omega
  · rw [if_neg h]
    by_cases h2 : a ≤ i ∧ i < a + n
    · rw [if_pos h2, if_pos (by omega)]
    · rw [if_neg h2, if_neg (by omega)]
/-- what is laid is what is read -/
theorem ld_pt_same (m : Nat → Int) (a n : Nat) (x : Int) : ld (pt m a n (by8 x)) a n = x % 256 ^ n := by
  rw [← ld_by8]; exact ld_congr fun i hi => by rw [pt_in hi, Nat.zero_add]
/-- what lies apart stays -/
theorem ld_pt_apart (m g : Nat → Int) (a n b k : Nat) (h : b + k ≤ a ∨ a + n ≤ b) : ld (pt m a n g) b k = ld m b k :=
  ld_congr fun i hi => pt_out (by omega)
theorem by8_mod (x : Int) (i n : Nat) (h : i < n) : by8 (x % 256 ^ n) i = by8 x i := by
  unfold by8
  obtain ⟨d, rfl⟩ : ∃ d, n = i + 1 + d := ⟨n - (i + 1), by omega⟩
  rw [Int.pow_add, Int.pow_succ]
  have hp := pow_pos i
  have hd := pow_pos d
  rw [show (256 : Int) ^ i * 256 * 256 ^ d = 256 ^ i * (256 * 256 ^ d) by rw [Int.mul_assoc]]
  rw [mod_mul _ _ _ hp (by omega), Int.add_mul_ediv_left _ _ (by omega), Int.ediv_eq_zero_of_lt (Int.emod_nonneg _ (by omega)) (Int.emod_lt_of_pos _ hp), Int.zero_add,
    Int.emod_emod_of_dvd _ ⟨256 ^ d, rfl⟩]
theorem pt_congr {m g g' : Nat → Int} {a n : Nat} (h : ∀ i, i < n → g i = g' i) : pt m a n g = pt m a n g' := by
  funext i; unfold pt; split
  · exact h _ (by omega)
  · rfl
end Mm

namespace Mm
theorem toNat_small {n : Nat} {a : Nat} (h : a < 2 ^ n) : (BitVec.ofInt n (a : Int)).toNat = a := by
  rw [BitVec.toNat_ofInt]
  have e : (a : Int) % ((2 ^ n : Nat) : Int) = ((a % 2 ^ n : Nat) : Int) := by rw [Int.natCast_emod]
  rw [e, Int.toNat_natCast, Nat.mod_eq_of_lt h]
theorem wrap_small {k : IntKind} (hk : k.signed = false) {a : Nat} (h : a < 2 ^ k.bits) : k.wrap (a : Int) = a := by
  unfold IntKind.wrap
  have e : (a : Int) % 2 ^ k.bits = (a : Int) := by
    refine Int.emod_eq_of_lt (Int.natCast_nonneg _) ?_
    have : ((a : Nat) : Int) < ((2 ^ k.bits : Nat) : Int) := by exact_mod_cast h
    simpa using this
  simp [hk, e]
theorem bits_or {k : IntKind} (hk : k.signed = false) {a c : Nat} (ha : a < 2 ^ k.bits) (hc : c < 2 ^ k.bits) : bits .or k (a : Int) (c : Int) = ((a ||| c : Nat) : Int) := by
  show k.wrap ((BitVec.ofInt k.bits (a : Int) ||| BitVec.ofInt k.bits (c : Int)).toNat : Int) = _
  rw [BitVec.toNat_or, toNat_small ha, toNat_small hc]
  exact wrap_small hk (Nat.or_lt_two_pow ha hc)
theorem bits_and {k : IntKind} (hk : k.signed = false) {a c : Nat} (ha : a < 2 ^ k.bits) (hc : c < 2 ^ k.bits) : bits .and k (a : Int) (c : Int) = ((a &&& c : Nat) : Int) := by
  show k.wrap ((BitVec.ofInt k.bits (a : Int) &&& BitVec.ofInt k.bits (c : Int)).toNat : Int) = _
  rw [BitVec.toNat_and, toNat_small ha, toNat_small hc]
  exact wrap_small hk (Nat.lt_of_le_of_lt Nat.and_le_left ha)
/-- bits that lie apart: the sum -/
theorem or_high {k : IntKind} (hk : k.signed = false) {x y : Int} {j : Nat} (x1 : 0 ≤ x) (x2 : x < 2 ^ j) (y1 : 0 ≤ y) (h : x + y * 2 ^ j < 2 ^ k.bits) : bits .or k x (y * 2 ^ j) = x + y * 2 ^ j := by
  obtain ⟨a, rfl⟩ := Int.eq_ofNat_of_zero_le x1
  obtain ⟨c, rfl⟩ := Int.eq_ofNat_of_zero_le y1
  have x2' : a < 2 ^ j := by exact_mod_cast x2
  have h' : a + c * 2 ^ j < 2 ^ k.bits := by exact_mod_cast h
  have e : ((c : Int) * 2 ^ j) = ((c * 2 ^ j : Nat) : Int) := by simp
  rw [e, bits_or hk (by omega) (by omega), Nat.or_comm, ← Nat.shiftLeft_eq, ← Nat.shiftLeft_add_eq_or_of_lt x2']
  rw [Nat.shiftLeft_eq]; omega
theorem or_low {k : IntKind} (hk : k.signed = false) {x y : Int} {j : Nat} (x1 : 0 ≤ x) (x2 : x < 2 ^ j) (y1 : 0 ≤ y) (h : x + y * 2 ^ j < 2 ^ k.bits) : bits .or k (y * 2 ^ j) x = x + y * 2 ^ j := by
  obtain ⟨a, rfl⟩ := Int.eq_ofNat_of_zero_le x1
  obtain ⟨c, rfl⟩ := Int.eq_ofNat_of_zero_le y1
  have x2' : a < 2 ^ j := by exact_mod_cast x2
  have h' : a + c * 2 ^ j < 2 ^ k.bits := by exact_mod_cast h
  have e : ((c : Int) * 2 ^ j) = ((c * 2 ^ j : Nat) : Int) := by simp
  rw [e, bits_or hk (by omega) (by omega), ← Nat.shiftLeft_eq, ← Nat.shiftLeft_add_eq_or_of_lt x2']
  rw [Nat.shiftLeft_eq]; omega
theorem pow8 (k : Nat) : (2 : Int) ^ (8 * k) = 256 ^ k := by rw [Int.pow_mul]; rfl
theorem and_255 {x : Int} (x1 : 0 ≤ x) (x2 : x < 18446744073709551616) : bits .and .u64 x 255 = x % 256 := by
  obtain ⟨a, rfl⟩ := Int.eq_ofNat_of_zero_le x1
  have h : a < 2 ^ IntKind.u64.bits := by show a < 2 ^ 64; omega
  show bits .and .u64 (a : Int) ((255 : Nat) : Int) = _
  rw [bits_and rfl h (by decide)]
  have : a &&& 255 = a % 256 := Nat.and_two_pow_sub_one_eq_mod a 8
  rw [this]; simp
/-- one byte more, as the loop lays it -/
theorem read_step {kd : IntKind} (hk : kd.signed = false) {x y : Int} {k : Nat} (x1 : 0 ≤ x) (x2 : x < 256 ^ k) (y1 : 0 ≤ y) (y2 : y < 256) (h : 256 ^ (k + 1) ≤ (2 : Int) ^ kd.bits) :
    bits .or kd x (kd.wrap (y * 2 ^ (8 * k))) = x + y * 256 ^ k := by
  have hp := pow_pos k
  rw [Int.pow_succ] at h
  have h2 : y * 256 ^ k ≤ 255 * 256 ^ k := Int.mul_le_mul_of_nonneg_right (by omega) (by omega)
  have h1 : 0 ≤ y * 256 ^ k := Int.mul_nonneg y1 (by omega)
  have e : kd.wrap (y * 2 ^ (8 * k)) = y * 2 ^ (8 * k) := by
    rw [pow8]
    obtain ⟨c, hc⟩ := Int.eq_ofNat_of_zero_le h1
    rw [hc]; refine wrap_small hk ?_
    have : ((c : Nat) : Int) < 2 ^ kd.bits := by omega
    exact_mod_cast this
  rw [e, or_high hk x1 (by rw [pow8]; exact x2) y1 (by rw [pow8]; omega), pow8]
end Mm

/-- the n cells from the address on hold the bytes g -/
def Bs (w : World) (ao : Option Addr) (n : Nat) (g : Nat → Int) : Prop :=
  n = 0 ∨ ∃ b off, ao = some ⟨b, off, none⟩ ∧ ∀ i, i < n → w.cell? ⟨b, off + i, none⟩ = some (.int .u8 (g i))

/-- a memory: the struct's block B holds a slice of all S bytes that lie in block D -/
structure IsMem (t : TypeId) (w : World) (B D S : Nat) (m : Nat → Int) : Prop where
  head : w.rowIs B t 1 (fun _ => .slice (some ⟨D, 0, none⟩) S S)
  row : w.rowIs D 5 S (fun i => .int .u8 (m i))
  fit : Mm.Fit m

theorem IsMem.kept {t : TypeId} {w w' : World} {B D S : Nat} {m : Nat → Int} {row : Option Nat} (h : IsMem t w B D S m) (hg : w.grownBy w' row) (h1 : some B ≠ row) (h2 : some D ≠ row) : IsMem t w' B D S m :=
  ⟨h.head.of_block (hg.block B h.head.lt h1), h.row.of_block (hg.block D h.row.lt h2), h.fit⟩

theorem IsMem.below {t : TypeId} {w w' : World} {B D S N : Nat} {m : Nat → Int} (h : IsMem t w B D S m) (hg : Below N w w') (h1 : B < N) (h2 : D < N) : IsMem t w' B D S m :=
  ⟨h.head.of_block (hg.block B h1), h.row.of_block (hg.block D h2), h.fit⟩

theorem grown_trans {w w' w'' : World} {row : Option Nat} (h : w.grownBy w' row) (k : w'.grownBy w'' row) : w.grownBy w'' row :=
  ⟨k.os.trans h.os, k.tape.trans h.tape, k.output.trans h.output, Nat.le_trans h.size k.size, fun i hi hr => (k.block i (Nat.lt_of_lt_of_le hi h.size) hr).trans (h.block i hi hr)⟩
theorem grown_setCell (w : World) (b i : Nat) (v : Value) : w.grownBy (w.setCell ⟨b, i, none⟩ v) (some b) :=
  ⟨rfl, rfl, rfl, by simp [World.setCell], fun k hk hr => Below.heap_setCell _ _ _ _ (fun e => hr (by rw [e]))⟩
theorem grown_drewN {w w' : World} {row : Option Nat} (h : w.grownBy w' row) (n : Nat) : w.grownBy (w'.drewN n) row := by
  refine grown_trans h ?_
  induction n with
  | zero => exact ⟨rfl, rfl, rfl, Nat.le_refl _, fun _ _ _ => rfl⟩
  | succ n ih => exact grown_trans ih ⟨rfl, rfl, rfl, Nat.le_refl _, fun _ _ _ => rfl⟩
end Go.Proofs.Ytkpmhgkljedapaa
