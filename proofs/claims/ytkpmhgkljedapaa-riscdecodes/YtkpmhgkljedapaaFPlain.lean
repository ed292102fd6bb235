/- Floats as their bits: plain functions, and what they keep to. No Go here. -/
import Derived.Test.YtkpmhgkljedapaaPlain
import Derived.WalkLawsBesides
namespace Go.Proofs.Ytkpmhgkljedapaa
open Ieee
namespace Fl
set_option linter.unusedVariables false

/-- what a word of 64 bits stands for -/
def rd (x : Int) : Datum := double.read x.toNat
def theNaN : Int := 9221120237041090560
/-- the order of two floats -/
def ordN (a b : Nat) : Option Ordering := double.order a b
def cmpN (op : Int) (a b : Nat) : Int :=
  if op = 11 then Wd.tr (ordN a b == some .eq) else if op = 12 then Wd.tr (ordN a b != some .eq) else if op = 13 then Wd.tr (ordN a b == some .lt)
  else if op = 14 then Wd.tr (ordN a b == some .lt || ordN a b == some .eq) else if op = 15 then Wd.tr (ordN a b == some .gt) else if op = 16 then Wd.tr (ordN a b == some .gt || ordN a b == some .eq) else 0
def cmpF (op x y : Int) : Int := cmpN op x.toNat y.toNat
def raw (op x y : Int) : Option Nat :=
  if op = 1 then double.add x.toNat y.toNat else if op = 2 then double.sub x.toNat y.toNat else if op = 3 then double.mul x.toNat y.toNat else double.div x.toNat y.toNat
def ar (op x y : Int) : Int := match raw op x y with | some r => r | none => theNaN
def bf (op x y : Int) : Int := if Wd.cmpB op then cmpF op x y else ar op x y

theorem sum_comm (a b : Datum) : a.sum b = b.sum a := by
  cases a <;> cases b <;> simp only [Datum.sum]
  · rename_i s m i t n j
    rw [Int.min_comm i j, Int.add_comm (signed s m _), Bool.and_comm s t]
  · rename_i s t
    by_cases h : s = t
    · subst h; rfl
    · rw [if_neg h, if_neg (fun e => h e.symm)]
theorem product_comm (a b : Datum) : a.product b = b.product a := by
  cases a <;> cases b <;> simp only [Datum.product]
  · rename_i s m i t n j
    rw [Bool.xor_comm, Nat.mul_comm, Int.add_comm]
  · rename_i s t; rw [Bool.xor_comm]


theorem sw : double.signWeight = 9223372036854775808 := by decide +kernel
theorem bn : double.binade = 4503599627370496 := by decide +kernel
theorem ir : double.infRung = 9218868437227405312 := by decide +kernel
theorem lp : double.leastPlace = -1074 := by decide +kernel
theorem fb52 : double.fractionBits = 52 := rfl

def rdOf (neg : Bool) (rung : Nat) : Datum :=
  if rung < 4503599627370496 then .number neg rung (-1074)
  else if rung < 9218868437227405312 then .number neg (4503599627370496 + rung % 4503599627370496) (-1074 + (rung / 4503599627370496 - 1 : Nat))
  else if rung = 9218868437227405312 then .infinity neg
  else .nan neg (rung - 9218868437227405312)
theorem read_is (n : Nat) : double.read n = rdOf (n / 9223372036854775808 % 2 == 1) (n % 9223372036854775808) := by
  unfold Format.read rdOf
  simp only [sw, bn, ir, lp]
theorem read_word (neg : Bool) {rung : Nat} (h : rung < 9223372036854775808) : double.read (double.word neg rung) = rdOf neg rung := by
  rw [read_is]
  unfold Format.word
  rw [sw]
  cases neg
  · rw [if_neg (by simp), show rung / 9223372036854775808 % 2 = 0 by omega, show rung % 9223372036854775808 = rung by omega]; rfl
  · rw [if_pos rfl, show (9223372036854775808 + rung) / 9223372036854775808 % 2 = 1 by omega, show (9223372036854775808 + rung) % 9223372036854775808 = rung by omega]; rfl

/-- a word of a finite number or an infinity is no NaN's -/
theorem nearest_word (neg : Bool) (mag : Nat) (place : Int) : ∃ rung, rung ≤ 9218868437227405312 ∧ double.nearest neg mag place = double.word neg rung := by
  unfold Format.nearest
  split
  · exact ⟨0, by omega, rfl⟩
  · dsimp only
    refine ⟨_, ?_, rfl⟩
    rw [ir]; exact Nat.min_le_right _ _
theorem write_num (neg : Bool) (mag : Nat) (place : Int) : (double.read (double.write (.number neg mag place))).isNaN = false := by
  obtain ⟨r, h, e⟩ := nearest_word neg mag place
  show (double.read (double.nearest neg mag place)).isNaN = false
  rw [e, read_word neg (by omega)]
  unfold rdOf
  repeat' split
  all_goals first | rfl | omega
theorem write_inf (neg : Bool) : (double.read (double.write (.infinity neg))).isNaN = false := by
  show (double.read (double.word neg double.infRung)).isNaN = false
  rw [ir, read_word neg (by omega)]
  unfold rdOf
  repeat' split
  all_goals first | rfl | omega

theorem cmp_self (a : Int) : compare a a = Ordering.eq := by simp [compare, compareOfLessAndEq]
theorem cmp_selfN (a : Nat) : compare a a = Ordering.eq := by simp [compare, compareOfLessAndEq]
theorem order_self {d : Datum} (h : d.isNaN = false) : d.order d = some .eq := by
  cases d with
  | number s m i => simp only [Datum.order]; rw [cmp_self]
  | infinity s => simp only [Datum.order]; rw [cmp_selfN]
  | nan s t => cases h
theorem order_nan {d e : Datum} (h : d.isNaN = true) : d.order e = none := by
  cases d with
  | nan s t => cases e <;> rfl
  | number s m i => cases h
  | infinity s => cases h

theorem cmp_swap (a b : Int) : compare a b = (compare b a).swap := by
  simp only [compare, compareOfLessAndEq]
  by_cases h : a < b
  · have g : ¬ b < a := by omega
    have k : ¬ b = a := by omega
    simp [h, g, k]
  · by_cases e : a = b
    · subst e; simp
    · have g : b < a := by omega
      simp [h, e, g]
theorem cmp_swapN (a b : Nat) : compare a b = (compare b a).swap := by
  simp only [compare, compareOfLessAndEq]
  by_cases h : a < b
  · have g : ¬ b < a := by omega
    have k : ¬ b = a := by omega
    simp [h, g, k]
  · by_cases e : a = b
    · subst e; simp
    · have g : b < a := by omega
      simp [h, e, g]
theorem order_swap (d e : Datum) : d.order e = (e.order d).map Ordering.swap := by
  cases d <;> cases e <;> simp only [Datum.order, Option.map_some, Option.map_none]
  · rename_i s m i t n j
    rw [Int.min_comm i j, cmp_swap]
  · rename_i s m i t; cases t <;> rfl
  · rename_i s t n j; cases s <;> rfl
  · rename_i s t; rw [cmp_swapN]

theorem raw_ok {op x y : Int} {r : Nat} (h : raw op x y = some r) : (double.read r).isNaN = false := by
  have key : ∀ d : Option Datum, (∀ e, d = some e → e.isNaN = false) → d.map double.write = some r → (double.read r).isNaN = false := by
    intro d hd hr
    cases d with
    | none => cases hr
    | some e =>
      have h1 := hd e rfl
      have : double.write e = r := by simpa using hr
      subst this
      cases e with
      | number s m i => exact write_num s m i
      | infinity s => exact write_inf s
      | nan s t => cases h1
  have hs : ∀ a b e, Datum.sum a b = some e → e.isNaN = false := by
    intro a b e he
    cases a <;> cases b <;> simp only [Datum.sum] at he
    all_goals first | (cases he; done) | skip
    all_goals first | (cases he; rfl) | (split at he; · cases he; rfl
                                         · cases he)
  have hp : ∀ a b e, Datum.product a b = some e → e.isNaN = false := by
    intro a b e he
    cases a <;> cases b <;> simp only [Datum.product] at he
    all_goals first | (cases he; done) | skip
    all_goals first | (cases he; rfl) | (split at he; · cases he
                                         · cases he; rfl)
  have hq : ∀ n a b e, Datum.quotient n a b = some e → e.isNaN = false := by
    intro n a b e he
    cases a <;> cases b <;> simp only [Datum.quotient] at he
    all_goals first | (cases he; done) | skip
    all_goals first | (cases he; rfl) | (split at he; · split at he
                                                        · cases he
                                                        · cases he; rfl
                                         · cases he; rfl)
  unfold raw at h
  split at h
  · exact key _ (hs _ _) h
  · split at h
    · exact key _ (hs _ _) h
    · split at h
      · exact key _ (hp _ _) h
      · exact key _ (hq _ _ _) h

end Fl
end Go.Proofs.Ytkpmhgkljedapaa
