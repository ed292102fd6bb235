/- Floats cut to whole numbers, and whole numbers as floats: plain. -/
import Derived.Test.YtkpmhgkljedapaaFLaws
namespace Go.Proofs.Ytkpmhgkljedapaa
namespace Fl
open Ieee
set_option linter.unusedVariables false

/-- -2^63 and 2^63 as floats -/
def cLo : Nat := 14114281232179134464
def cHi : Nat := 4890909195324358656
theorem rd_lo : double.read cLo = .number true 4503599627370496 11 := by decide +kernel
theorem rd_hi : double.read cHi = .number false 4503599627370496 11 := by decide +kernel

def loB (x : Int) : Bool := ordN x.toNat cLo == some .gt || ordN x.toNat cLo == some .eq
def hiB (x : Int) : Bool := ordN x.toNat cHi == some .lt
def toI (x : Int) : Int := match (double.read x.toNat).toInt .zero with | some n => n | none => 0
/-- a float rounded to 0, in 64 bits; 2^63 where it does not fit -/
def trunc (x : Int) : Int := if loB x && hiB x then toI x % 18446744073709551616 else 9223372036854775808

theorem cmp_lt {a b : Int} (h : compare a b = Ordering.lt) : a < b := by
  simp only [compare, compareOfLessAndEq] at h
  by_cases g : a < b
  · exact g
  · rw [if_neg g] at h; split at h <;> cases h
theorem cmp_ge {a b : Int} (h : compare a b = Ordering.gt ∨ compare a b = Ordering.eq) : b ≤ a := by
  simp only [compare, compareOfLessAndEq] at h
  by_cases g : a < b
  · rw [if_pos g] at h; rcases h with h | h <;> cases h
  · omega

theorem cut_zero (s : Bool) (n d : Nat) : Toward.zero.cut s n d = n / 2 ^ min d (n.log2 + 2) := by
  unfold Toward.cut
  simp only [Nat.one_shiftLeft]
  rfl
theorem cut_le (s : Bool) (n d : Nat) : Toward.zero.cut s n d ≤ n / 2 ^ d := by
  rw [cut_zero]
  by_cases h : d ≤ n.log2 + 2
  · rw [Nat.min_eq_left h]; exact Nat.le_refl _
  · rw [Nat.min_eq_right (by omega)]
    have p : n < 2 ^ (n.log2 + 2) := Nat.lt_of_lt_of_le Nat.lt_log2_self (Nat.pow_le_pow_right (by omega) (by omega))
    rw [Nat.div_eq_of_lt p]; exact Nat.zero_le _

/-- the number of whole units of m 2^i -/
theorem cut_bound (s : Bool) (m : Nat) (i : Int) (C : Nat) (h : m * 2 ^ (i - min i 11).toNat ≤ C * 2 ^ (11 - min i 11).toNat) : Toward.zero.cut s (m <<< i.toNat) (-i).toNat ≤ C * 2 ^ 11 := by
  rw [Nat.shiftLeft_eq]
  by_cases hi : 0 ≤ i
  · rw [show (-i).toNat = 0 by omega]
    refine Nat.le_trans (cut_le s _ 0) ?_
    rw [Nat.pow_zero, Nat.div_one]
    by_cases h11 : i ≤ 11
    · rw [show min i 11 = i by omega, show (i - i).toNat = 0 by omega, Nat.pow_zero, Nat.mul_one] at h
      have := Nat.mul_le_mul_right (2 ^ i.toNat) h
      rw [Nat.mul_assoc, ← Nat.pow_add, show (11 - i).toNat + i.toNat = 11 by omega] at this
      exact this
    · rw [show min i 11 = 11 by omega, show ((11 : Int) - 11).toNat = 0 by omega, Nat.pow_zero, Nat.mul_one] at h
      have := Nat.mul_le_mul_right (2 ^ 11) h
      rw [Nat.mul_assoc, ← Nat.pow_add, show (i - 11).toNat + 11 = i.toNat by omega] at this
      exact this
  · rw [show i.toNat = 0 by omega, Nat.pow_zero, Nat.mul_one]
    refine Nat.le_trans (cut_le s _ _) ?_
    rw [show min i 11 = i by omega, show (i - i).toNat = 0 by omega, Nat.pow_zero, Nat.mul_one, show (11 - i).toNat = 11 + (-i).toNat by omega, Nat.pow_add, ← Nat.mul_assoc] at h
    exact Nat.div_le_of_le_mul (by rw [Nat.mul_comm]; exact h)
theorem cut_bound_lt (s : Bool) (m : Nat) (i : Int) (C : Nat) (h : m * 2 ^ (i - min i 11).toNat < C * 2 ^ (11 - min i 11).toNat) : Toward.zero.cut s (m <<< i.toNat) (-i).toNat < C * 2 ^ 11 := by
  rw [Nat.shiftLeft_eq]
  by_cases hi : 0 ≤ i
  · rw [show (-i).toNat = 0 by omega]
    refine Nat.lt_of_le_of_lt (cut_le s _ 0) ?_
    rw [Nat.pow_zero, Nat.div_one]
    by_cases h11 : i ≤ 11
    · rw [show min i 11 = i by omega, show (i - i).toNat = 0 by omega, Nat.pow_zero, Nat.mul_one] at h
      have := Nat.mul_lt_mul_of_pos_right h (Nat.two_pow_pos i.toNat)
      rw [Nat.mul_assoc, ← Nat.pow_add, show (11 - i).toNat + i.toNat = 11 by omega] at this
      exact this
    · rw [show min i 11 = 11 by omega, show ((11 : Int) - 11).toNat = 0 by omega, Nat.pow_zero, Nat.mul_one] at h
      have := Nat.mul_lt_mul_of_pos_right h (Nat.two_pow_pos 11)
      rw [Nat.mul_assoc, ← Nat.pow_add, show (i - 11).toNat + 11 = i.toNat by omega] at this
      exact this
  · rw [show i.toNat = 0 by omega, Nat.pow_zero, Nat.mul_one]
    refine Nat.lt_of_le_of_lt (cut_le s _ _) ?_
    rw [show min i 11 = i by omega, show (i - i).toNat = 0 by omega, Nat.pow_zero, Nat.mul_one, show (11 - i).toNat = 11 + (-i).toNat by omega, Nat.pow_add, ← Nat.mul_assoc] at h
    exact Nat.div_lt_of_lt_mul (by rw [Nat.mul_comm]; exact h)

theorem toI_in {x : Int} (h1 : loB x = true) (h2 : hiB x = true) : (double.read x.toNat).toInt .zero = some (toI x) ∧ -9223372036854775808 ≤ toI x ∧ toI x ≤ 9223372036854775807 := by
  have lo : Datum.order (double.read x.toNat) (double.read cLo) = some .gt ∨ Datum.order (double.read x.toNat) (double.read cLo) = some .eq := by
    simpa [loB, ordN, Format.order] using h1
  have hi : Datum.order (double.read x.toNat) (double.read cHi) = some .lt := by
    simpa [hiB, ordN, Format.order] using h2
  unfold toI
  rw [rd_lo] at lo
  rw [rd_hi] at hi
  cases hd : double.read x.toNat with
  | nan s t => rw [hd] at hi; cases hi
  | infinity s =>
    rw [hd] at hi lo
    cases s
    · simp [Datum.order] at hi
    · simp [Datum.order] at lo
  | number s m i =>
    rw [hd] at hi lo
    have hz : (Datum.number s m i).toInt .zero = some (signed s (Toward.zero.cut s (m <<< i.toNat) (-i).toNat) 0) := rfl
    rw [hz]
    refine ⟨rfl, ?_⟩
    show -9223372036854775808 ≤ signed s _ 0 ∧ signed s _ 0 ≤ 9223372036854775807
    simp only [Datum.order, Option.some.injEq] at hi lo
    have hi' := cmp_lt hi
    have lo' := cmp_ge lo
    clear hi lo hz hd h1 h2
    unfold signed at *
    simp only [Nat.shiftLeft_eq, Nat.pow_zero, Nat.mul_one] at *
    cases s
    · simp only [Bool.false_eq_true, if_false] at *
      have := cut_bound_lt false m i 4503599627370496 (by omega)
      rw [Nat.shiftLeft_eq] at this
      omega
    · simp only [if_true] at *
      have := cut_bound true m i 4503599627370496 (by omega)
      rw [Nat.shiftLeft_eq] at this
      omega

/-- a whole number of at most 53 bits as a float: the number itself -/
theorem small_read {n : Nat} (h0 : n ≠ 0) (h : n < 9007199254740992) :
    double.nearest false n 0 < 9223372036854775808 ∧ double.read (double.nearest false n 0) = .number false (n * 2 ^ (52 - n.log2)) ((n.log2 : Int) - 52) ∧ 4503599627370496 ≤ n * 2 ^ (52 - n.log2) ∧ n * 2 ^ (52 - n.log2) < 9007199254740992 ∧ n.log2 ≤ 52 := by
  have hL : n.log2 < 53 := (Nat.log2_lt h0).2 (by simpa using h)
  have a1 : 2 ^ n.log2 ≤ n := Nat.log2_self_le h0
  have a2 : n < 2 ^ (n.log2 + 1) := Nat.lt_log2_self
  have q1 : 4503599627370496 ≤ n * 2 ^ (52 - n.log2) := by
    have := Nat.mul_le_mul_right (2 ^ (52 - n.log2)) a1
    rw [← Nat.pow_add, show n.log2 + (52 - n.log2) = 52 by omega] at this
    exact this
  have q2 : n * 2 ^ (52 - n.log2) < 9007199254740992 := by
    have := Nat.mul_lt_mul_of_pos_right a2 (Nat.two_pow_pos (52 - n.log2))
    rw [← Nat.pow_add, show n.log2 + 1 + (52 - n.log2) = 53 by omega] at this
    exact this
  have e : double.nearest false n 0 = (n.log2 + 1022) * 4503599627370496 + n * 2 ^ (52 - n.log2) := by
    unfold Format.nearest
    rw [if_neg h0]
    dsimp only
    rw [fb52, lp, bn, ir]
    have l : max (0 + (n.log2 : Int) - ((52 : Nat) : Int)) (-1074) = (n.log2 : Int) - 52 := by omega
    rw [l, show (0 - ((n.log2 : Int) - 52)).toNat = 52 - n.log2 by omega, show ((n.log2 : Int) - 52 - 0).toNat = 0 by omega, show ((n.log2 : Int) - 52 - -1074).toNat = n.log2 + 1022 by omega, Nat.shiftLeft_eq]
    have c : Toward.even.cut false (n * 2 ^ (52 - n.log2)) 0 = n * 2 ^ (52 - n.log2) := by
      unfold Toward.cut
      simp only [Nat.zero_min, Nat.shiftLeft_zero, Nat.div_one, Nat.mod_one]
      rfl
    rw [c, Nat.min_eq_left (by omega)]
    rfl
  refine ⟨by omega, ?_, q1, q2, by omega⟩
  rw [e, read_is]
  generalize n * 2 ^ (52 - n.log2) = q at *
  rw [show ((n.log2 + 1022) * 4503599627370496 + q) / 9223372036854775808 % 2 = 0 by omega, show ((n.log2 + 1022) * 4503599627370496 + q) % 9223372036854775808 = (n.log2 + 1022) * 4503599627370496 + q by omega]
  unfold rdOf
  rw [if_neg (by omega), if_pos (by omega), show ((n.log2 + 1022) * 4503599627370496 + q) % 4503599627370496 = q - 4503599627370496 by omega, show ((n.log2 + 1022) * 4503599627370496 + q) / 4503599627370496 = n.log2 + 1023 by omega]
  rw [show 4503599627370496 + (q - 4503599627370496) = q by omega, show (-1074 : Int) + ((n.log2 + 1023 - 1 : Nat) : Int) = (n.log2 : Int) - 52 by omega]
  rfl

theorem cmp_of_lt {a b : Int} (h : a < b) : compare a b = Ordering.lt := by simp [compare, compareOfLessAndEq, h]
theorem cmp_of_gt {a b : Int} (h : b < a) : compare a b = Ordering.gt := by
  have h1 : ¬ a < b := by omega
  have h2 : ¬ a = b := by omega
  simp [compare, compareOfLessAndEq, h1, h2]

theorem small_back {n : Int} (h0 : 0 ≤ n) (h : n < 9007199254740992) :
    loB (floatOfInt .f64 n) = true ∧ hiB (floatOfInt .f64 n) = true ∧ toI (floatOfInt .f64 n) = n := by
  by_cases hz : n = 0
  · subst hz; decide +kernel
  · have hf : floatOfInt .f64 n = double.nearest false n.toNat 0 := by
      show double.nearest (decide (n < 0)) n.natAbs 0 = _
      rw [decide_eq_false (by omega), show n.natAbs = n.toNat by omega]
    obtain ⟨r1, r2, q1, q2, hL⟩ := small_read (n := n.toNat) (by omega) (by omega)
    have e0 : n.toNat = n.toNat := rfl
    generalize hm : n.toNat = m at *
    have hb : double.read ((floatOfInt .f64 n : Nat) : Int).toNat = .number false (m * 2 ^ (52 - m.log2)) ((m.log2 : Int) - 52) := by rw [Int.toNat_natCast, hf, r2]
    refine ⟨?_, ?_, ?_⟩
    · unfold loB ordN Format.order
      rw [hb, rd_lo]
      simp only [Datum.order]
      rw [cmp_of_gt]
      · rfl
      · unfold signed
        simp only [if_true, Bool.false_eq_true, if_false, Nat.shiftLeft_eq]
        have : 0 < 4503599627370496 * 2 ^ (11 - min ((m.log2 : Int) - 52) 11).toNat := Nat.mul_pos (by omega) (Nat.two_pow_pos _)
        omega
    · unfold hiB ordN Format.order
      rw [hb, rd_hi]
      simp only [Datum.order]
      rw [cmp_of_lt]
      · rfl
      · unfold signed
        simp only [Bool.false_eq_true, if_false, Nat.shiftLeft_eq]
        rw [show min ((m.log2 : Int) - 52) 11 = (m.log2 : Int) - 52 by omega, show ((m.log2 : Int) - 52 - ((m.log2 : Int) - 52)).toNat = 0 by omega, Nat.pow_zero, Nat.mul_one]
        have : 2 ^ 11 ≤ 2 ^ (11 - ((m.log2 : Int) - 52)).toNat := Nat.pow_le_pow_right (by omega) (by omega)
        omega
    · unfold toI
      rw [hb]
      show signed false (Toward.zero.cut false ((m * 2 ^ (52 - m.log2)) <<< ((m.log2 : Int) - 52).toNat) (-((m.log2 : Int) - 52)).toNat) 0 = n
      rw [show ((m.log2 : Int) - 52).toNat = 0 by omega, show (-((m.log2 : Int) - 52)).toNat = 52 - m.log2 by omega, Nat.shiftLeft_zero, cut_zero]
      have l52 : 52 ≤ (m * 2 ^ (52 - m.log2)).log2 := (Nat.le_log2 (by omega)).2 (by simpa using q1)
      rw [Nat.min_eq_left (by omega), Nat.mul_div_cancel _ (Nat.two_pow_pos _)]
      unfold signed
      simp only [Bool.false_eq_true, if_false, Nat.shiftLeft_zero]
      omega

end Fl
end Go.Proofs.Ytkpmhgkljedapaa
