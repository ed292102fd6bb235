/- Contracts and plain facts that the walks share. -/
import Derived.Test.YtkiockffejlnhaaGreatDoorG2
import Derived.Test.YtkiockffejlnhaaGreatDoorG1
import Derived.WalkLawsBesides
import Derived.Laws.FloatArith
import Derived.Deep.Draws
namespace Go.Proofs.YtkiockffejlnhaaGreatDoor
set_option maxRecDepth 100000
set_option maxHeartbeats 32000000
open Go.RowKit
set_option linter.unusedVariables false
namespace Wd
def flip (x : Int) : Int := if x < 9223372036854775808 then x + 9223372036854775808 else x - 9223372036854775808
def unI (op k x : Int) : Int × Int :=
 if hasUnB op k = false then (0, 10) else if isB k x = false then (0, 11)
 else if op = 2 then (1 - x, 0) else if op = 3 then (canon k (18446744073709551615 - x), 0) else if k = 10 then (flip x, 0) else (canon k (-x), 0)
end Wd
theorem xor_top {a : Nat} (h : a < 9223372036854775808) : a ^^^ 9223372036854775808 = 9223372036854775808 + a := by
 have e : (9223372036854775808 : Nat) = 2 ^ 63 := by decide
 rw [e] at *
 refine Nat.eq_of_testBit_eq fun i => ?_
 rw [Nat.testBit_xor, Nat.testBit_two_pow]
 rcases Nat.lt_trichotomy i 63 with hi | hi | hi
 ·rw [Nat.testBit_two_pow_add_gt hi, decide_eq_false (by omega), Bool.xor_false]
 ·subst hi; rw [Nat.testBit_two_pow_add_eq, decide_eq_true rfl, Bool.xor_true]
 ·have p : 2 ^ 64 ≤ 2 ^ i := Nat.pow_le_pow_right (by omega) hi
  have q : 2 ^ 64 = 2 ^ 63 + 2 ^ 63 := by decide
  rw [Nat.testBit_lt_two_pow (x := a) (by omega), Nat.testBit_lt_two_pow (x := 2 ^ 63 + a) (by omega), decide_eq_false (by omega), Bool.xor_false]
theorem xor_ones {a : Nat} (h : a < 18446744073709551616) : 18446744073709551615 ^^^ a = 18446744073709551615 - a := by
 have e1 : (18446744073709551615 : Nat) = 2 ^ 64 - 1 := by decide
 have e2 : (18446744073709551615 - a : Nat) = 2 ^ 64 - (a + 1) := by omega
 have h' : a < 2 ^ 64 := h
 rw [e2, e1]
 refine Nat.eq_of_testBit_eq fun i => ?_
 rw [Nat.testBit_xor, Nat.testBit_two_pow_sub_one, Nat.testBit_two_pow_sub_succ h']
 by_cases hi : i < 64
 ·simp [hi]
 ·have p : 2 ^ 64 ≤ 2 ^ i := Nat.pow_le_pow_right (by omega) (by omega)
  rw [Nat.testBit_lt_two_pow (x := a) (by omega)]; simp [hi]
theorem bits_flip {x : Int} (h1 : 0 ≤ x) (h2 : x < 18446744073709551616) : bits .xor .u64 x 9223372036854775808 = Wd.flip x := by
 rw [Go.u64_xor _ _ h1 h2 (by decide) (by decide), show (9223372036854775808 : Int).toNat = 9223372036854775808 from rfl]
 unfold Wd.flip
 split
 ·rw [xor_top (by omega)]; omega
 ·have e : x.toNat = (x - 9223372036854775808).toNat ^^^ 9223372036854775808 := by rw [xor_top (by omega)]; omega
  rw [e, Nat.xor_assoc, Nat.xor_self, Nat.xor_zero]; omega
theorem bits_com {x : Int} (h1 : 0 ≤ x) (h2 : x < 18446744073709551616) : bits .xor .u64 IntKind.u64.max x = 18446744073709551615 - x := by
 rw [show IntKind.u64.max = 18446744073709551615 from by decide, Go.u64_xor _ _ (by decide) (by decide) h1 h2, show (18446744073709551615 : Int).toNat = 18446744073709551615 from rfl, xor_ones (by omega)]; omega
theorem bits_not {x : Int} (h1 : 0 ≤ x) (h2 : x ≤ 1) : bits .xor .u64 x 1 = 1 - x := by
 rw [Go.u64_xor _ _ h1 (by omega) (by decide) (by decide)]
 have : x = 0 ∨ x = 1 := by omega
 rcases this with rfl | rfl <;> decide
theorem unI_ok {op k x : Int} (hh : Wd.hasUnB op k = true) (hi : Wd.isB k x = true) :
  Wd.unI op k x = if op = 2 then (1 - x, 0) else if op = 3 then (Wd.canon k (18446744073709551615 - x), 0) else if k = 10 then (Wd.flip x, 0) else (Wd.canon k (-x), 0) := by
 unfold Wd.unI; rw [if_neg (by simp [hh]), if_neg (by simp [hi])]
theorem un_ok (op k x : Int) (w : World) (hx : 0 ≤ x) (hx2 : x < 18446744073709551616) (hh : Wd.hasUnB op k = true) (hi : Wd.isB k x = true) :
  Calls Tryz.prog 112 #[.int .i64 op, .int .i64 k, .int .u64 x] w fun e w' => e = .returned (.tuple #[.int .u64 (Wd.unI op k x).1, .int .i64 (Wd.unI op k x).2]) ∧ w' = w := by
 have Hu : Hid (_ = _) := unI_ok hh hi
 have Hn : Hid (op = 2 → x ≤ 1) := by
  show op = 2 → x ≤ 1
  rintro rfl
  have hk : k = 1 := by simpa [Wd.hasUnB] using hh
  subst hk
  simp only [Wd.isB, Wd.canon1, Bool.and_eq_true, beq_iff_eq] at hi
  omega
 go_enter Tryz.func112, Tryz.ntmps112
 go_wp2_with (first | (go_at_call 137; refine (hasUn_any _ _ _).mono ?_; rintro e w' ⟨rfl, rfl⟩) | (go_at_call 132; refine (is_any _ _ _ (by first | assumption | decide) (by first | assumption | decide)).mono ?_; rintro e w' ⟨rfl, rfl⟩) | (go_at_call 138; go_in) | (go_at_call 123; refine (canon_any _ _ _ (by first | exact (wrap_rng _).1 | (rw [bits_com (by assumption) (by assumption)]; omega)) (by first | exact (wrap_rng _).2 | (rw [bits_com (by assumption) (by assumption)]; omega))).mono ?_; rintro e w' ⟨rfl, rfl⟩))
 all_goals
  go_ret2
  refine ⟨ret_bin ?_, rfl⟩
  show Wd.unI op k x = _
  rw [Hu.out]
 ·rw [if_pos (by simpa using ‹(op == 2) = true›), bits_not hx (Hn.out (by simpa using ‹(op == 2) = true›))]
 ·rw [if_neg (by simpa using ‹(op == 2) = false›), if_pos (by simpa using ‹(op == 3) = true›), bits_com hx hx2]
 ·rw [if_neg (by simpa using ‹(op == 2) = false›), if_neg (by simpa using ‹(op == 3) = false›), if_pos (by simpa using ‹(k == 10) = true›), bits_flip hx hx2]
 ·rw [if_neg (by simpa using ‹(op == 2) = false›), if_neg (by simpa using ‹(op == 3) = false›), if_neg (by simpa using ‹(k == 10) = false›), Wd.canon_wrap]
theorem un_kind (op k x : Int) (w : World) (hh : Wd.hasUnB op k = false) :
  Calls Tryz.prog 112 #[.int .i64 op, .int .i64 k, .int .u64 x] w fun e w' => e = .returned (.tuple #[.int .u64 0, .int .i64 10]) ∧ w' = w := by
 go_enter Tryz.func112, Tryz.ntmps112
 go_wp2_with (go_at_call 137; refine (hasUn_any _ _ _).mono ?_; rintro e w' ⟨rfl, rfl⟩)
 go_ret2
 exact ⟨rfl, rfl⟩
theorem un_form (op k x : Int) (w : World) (hx : 0 ≤ x) (hx2 : x < 18446744073709551616) (hh : Wd.hasUnB op k = true) (hi : Wd.isB k x = false) :
  Calls Tryz.prog 112 #[.int .i64 op, .int .i64 k, .int .u64 x] w fun e w' => e = .returned (.tuple #[.int .u64 0, .int .i64 11]) ∧ w' = w := by
 go_enter Tryz.func112, Tryz.ntmps112
 go_wp2_with (first | (go_at_call 137; refine (hasUn_any _ _ _).mono ?_; rintro e w' ⟨rfl, rfl⟩) | (go_at_call 132; refine (is_any _ _ _ (by assumption) (by assumption)).mono ?_; rintro e w' ⟨rfl, rfl⟩))
 go_ret2
 exact ⟨rfl, rfl⟩
theorem un_any (op k x : Int) (w : World) (hx : 0 ≤ x) (hx2 : x < 18446744073709551616) :
  Calls Tryz.prog 112 #[.int .i64 op, .int .i64 k, .int .u64 x] w fun e w' => e = .returned (.tuple #[.int .u64 (Wd.unI op k x).1, .int .i64 (Wd.unI op k x).2]) ∧ w' = w := by
 cases hh : Wd.hasUnB op k
 ·have e : Wd.unI op k x = (0, 10) := by unfold Wd.unI; rw [if_pos hh]
  rw [e]; exact un_kind op k x w hh
 ·cases hi : Wd.isB k x
  ·have e : Wd.unI op k x = (0, 11) := by unfold Wd.unI; rw [if_neg (by simp [hh]), if_pos hi]
   rw [e]; exact un_form op k x w hx hx2 hh hi
  ·exact un_ok op k x w hx hx2 hh hi
end Go.Proofs.YtkiockffejlnhaaGreatDoor
namespace Go.Proofs.YtkiockffejlnhaaGreatDoor
open Ieee
namespace Fl
set_option linter.unusedVariables false
def rd (x : Int) : Datum := double.read x.toNat
def theNaN : Int := 9221120237041090560
def ordN (a b : Nat) : Option Ordering := double.order a b
def cmpN (op : Int) (a b : Nat) : Int :=
  if op = 11 then Wd.tr (ordN a b == some .eq) else if op = 12 then Wd.tr (ordN a b != some .eq) else if op = 13 then Wd.tr (ordN a b == some .lt)
  else if op = 14 then Wd.tr (ordN a b == some .lt || ordN a b == some .eq) else if op = 15 then Wd.tr (ordN a b == some .gt) else if op = 16 then Wd.tr (ordN a b == some .gt || ordN a b == some .eq) else 0
def cmpF (op x y : Int) : Int := cmpN op x.toNat y.toNat
def raw (op x y : Int) : Option Nat :=
  if op = 1 then double.add x.toNat y.toNat else if op = 2 then double.sub x.toNat y.toNat else if op = 3 then double.mul x.toNat y.toNat else double.div x.toNat y.toNat
def ar (op x y : Int) : Int := match raw op x y with | some r => r | none => theNaN
def bf (op x y : Int) : Int := if Wd.cmpB op then cmpF op x y else ar op x y
theorem sum_comm (a b : Datum) : a.sum b = b.sum a := by
  cases a <;> cases b <;> simp only [Datum.sum]
  · rename_i s m i t n j
    rw [Int.min_comm i j, Int.add_comm (signed s m _), Bool.and_comm s t]
  · rename_i s t
    by_cases h : s = t
    · subst h; rfl
    · rw [if_neg h, if_neg (fun e => h e.symm)]
theorem product_comm (a b : Datum) : a.product b = b.product a := by
  cases a <;> cases b <;> simp only [Datum.product]
  · rename_i s m i t n j
    rw [Bool.xor_comm, Nat.mul_comm, Int.add_comm]
  · rename_i s t; rw [Bool.xor_comm]
theorem sw : double.signWeight = 9223372036854775808 := by decide +kernel
theorem bn : double.binade = 4503599627370496 := by decide +kernel
theorem ir : double.infRung = 9218868437227405312 := by decide +kernel
theorem lp : double.leastPlace = -1074 := by decide +kernel
def rdOf (neg : Bool) (rung : Nat) : Datum :=
  if rung < 4503599627370496 then .number neg rung (-1074)
  else if rung < 9218868437227405312 then .number neg (4503599627370496 + rung % 4503599627370496) (-1074 + (rung / 4503599627370496 - 1 : Nat))
  else if rung = 9218868437227405312 then .infinity neg
  else .nan neg (rung - 9218868437227405312)
theorem read_is (n : Nat) : double.read n = rdOf (n / 9223372036854775808 % 2 == 1) (n % 9223372036854775808) := by
  unfold Format.read rdOf
  simp only [sw, bn, ir, lp]
theorem read_word (neg : Bool) {rung : Nat} (h : rung < 9223372036854775808) : double.read (double.word neg rung) = rdOf neg rung := by
  rw [read_is]
  unfold Format.word
  rw [sw]
  cases neg
  · rw [if_neg (by simp), show rung / 9223372036854775808 % 2 = 0 by omega, show rung % 9223372036854775808 = rung by omega]; rfl
  · rw [if_pos rfl, show (9223372036854775808 + rung) / 9223372036854775808 % 2 = 1 by omega, show (9223372036854775808 + rung) % 9223372036854775808 = rung by omega]; rfl
theorem nearest_word (neg : Bool) (mag : Nat) (place : Int) : ∃ rung, rung ≤ 9218868437227405312 ∧ double.nearest neg mag place = double.word neg rung := by
  unfold Format.nearest
  split
  · exact ⟨0, by omega, rfl⟩
  · dsimp only
    refine ⟨_, ?_, rfl⟩
    rw [ir]; exact Nat.min_le_right _ _
theorem write_num (neg : Bool) (mag : Nat) (place : Int) : (double.read (double.write (.number neg mag place))).isNaN = false := by
  obtain ⟨r, h, e⟩ := nearest_word neg mag place
  show (double.read (double.nearest neg mag place)).isNaN = false
  rw [e, read_word neg (by omega)]
  unfold rdOf
  repeat' split
  all_goals first | rfl | omega
theorem write_inf (neg : Bool) : (double.read (double.write (.infinity neg))).isNaN = false := by
  show (double.read (double.word neg double.infRung)).isNaN = false
  rw [ir, read_word neg (by omega)]
  unfold rdOf
  repeat' split
  all_goals first | rfl | omega
theorem cmp_self (a : Int) : compare a a = Ordering.eq := by simp [compare, compareOfLessAndEq]
theorem cmp_selfN (a : Nat) : compare a a = Ordering.eq := by simp [compare, compareOfLessAndEq]
theorem order_self {d : Datum} (h : d.isNaN = false) : d.order d = some .eq := by
  cases d with
  | number s m i => simp only [Datum.order]; rw [cmp_self]
  | infinity s => simp only [Datum.order]; rw [cmp_selfN]
  | nan s t => cases h
theorem order_nan {d e : Datum} (h : d.isNaN = true) : d.order e = none := by
  cases d with
  | nan s t => cases e <;> rfl
  | number s m i => cases h
  | infinity s => cases h
theorem raw_ok {op x y : Int} {r : Nat} (h : raw op x y = some r) : (double.read r).isNaN = false := by
  have key : ∀ d : Option Datum, (∀ e, d = some e → e.isNaN = false) → d.map double.write = some r → (double.read r).isNaN = false := by
    intro d hd hr
    cases d with
    | none => cases hr
    | some e =>
      have h1 := hd e rfl
      have : double.write e = r := by simpa using hr
      subst this
      cases e with
      | number s m i => exact write_num s m i
      | infinity s => exact write_inf s
      | nan s t => cases h1
  have hs : ∀ a b e, Datum.sum a b = some e → e.isNaN = false := by
    intro a b e he
    cases a <;> cases b <;> simp only [Datum.sum] at he
    all_goals first | (cases he; done) | skip
    all_goals first | (cases he; rfl) | (split at he; · cases he; rfl
                                         · cases he)
  have hp : ∀ a b e, Datum.product a b = some e → e.isNaN = false := by
    intro a b e he
    cases a <;> cases b <;> simp only [Datum.product] at he
    all_goals first | (cases he; done) | skip
    all_goals first | (cases he; rfl) | (split at he; · cases he
                                         · cases he; rfl)
  have hq : ∀ n a b e, Datum.quotient n a b = some e → e.isNaN = false := by
    intro n a b e he
    cases a <;> cases b <;> simp only [Datum.quotient] at he
    all_goals first | (cases he; done) | skip
    all_goals first | (cases he; rfl) | (split at he; · split at he
                                                        · cases he
                                                        · cases he; rfl
                                         · cases he; rfl)
  unfold raw at h
  split at h
  · exact key _ (hs _ _) h
  · split at h
    · exact key _ (hs _ _) h
    · split at h
      · exact key _ (hp _ _) h
      · exact key _ (hq _ _ _) h
end Fl
end Go.Proofs.YtkiockffejlnhaaGreatDoor
namespace Go.Proofs.YtkiockffejlnhaaGreatDoor
set_option maxRecDepth 100000
set_option maxHeartbeats 32000000
open Go.RowKit
set_option linter.unusedVariables false
theorem frombits (x : Int) (w : World) : (callFunc 147 #[.int .u64 x]).run Tryz.prog w = .ok (.value (.float .f64 x.toNat)) w := by kernel_rfl
theorem tobits (b : Nat) (w : World) : (callFunc 152 #[.float .f64 b]).run Tryz.prog w = .ok (.value (.int .u64 b)) w := by kernel_rfl
theorem ord_nat (a b : Nat) : Fl.ordN a b = FloatKind.f64.format.order a b := rfl
theorem compareF_any (op : Int) (a b : Nat) (w : World) :
  Calls Tryz.prog 148 #[.int .i64 op, .float .f64 a, .float .f64 b] w fun e w' => e = .returned (.int .u64 (Fl.cmpN op a b)) ∧ w' = w := by
 go_enter Tryz.func148, Tryz.ntmps148
 go_wp2
 all_goals
  go_ret
  refine ⟨ret_u64 ?_, rfl⟩
  unfold Fl.cmpN Wd.tr
  rw [ord_nat]
  generalize FloatKind.f64.format.order a b = o at *
  simp_all
theorem self_eq {b : Nat} (h : (Ieee.double.read b).isNaN = false) : (FloatKind.f64.format.order b b != some Ordering.eq) = false := by
 show (Ieee.Datum.order (Ieee.double.read b) (Ieee.double.read b) != some Ordering.eq) = false
 rw [Fl.order_self h]; rfl
theorem self_ne {b : Nat} (h : (Ieee.double.read b).isNaN = true) : (FloatKind.f64.format.order b b != some Ordering.eq) = true := by
 show (Ieee.Datum.order (Ieee.double.read b) (Ieee.double.read b) != some Ordering.eq) = true
 rw [Fl.order_nan h]; rfl
theorem oneNaN_no (b : Nat) (w : World) (h : (Ieee.double.read b).isNaN = false) :
  Calls Tryz.prog 149 #[.float .f64 b] w fun e w' => e = .returned (.int .u64 b) ∧ w' = w := by
 have hb := tobits b
 have hs := self_eq h
 clear h
 go_enter Tryz.func149, Tryz.ntmps149
 go_wp2
 go_ret
 exact ⟨rfl, rfl⟩
theorem oneNaN_yes (b : Nat) (w : World) (h : (Ieee.double.read b).isNaN = true) :
  Calls Tryz.prog 149 #[.float .f64 b] w fun e w' => e = .returned (.int .u64 Fl.theNaN) ∧ w' = w := by
 have hs := self_ne h
 clear h
 go_enter Tryz.func149, Tryz.ntmps149
 go_wp2
 go_ret
 exact ⟨rfl, rfl⟩
def anyNaN (w : World) (x y : Nat) : Nat := Question.cut (.nanBits .f64 x y) (w.tape w.drawn (.nanBits .f64 x y))
theorem anyNaN_is (w : World) (x y : Nat) : (Ieee.double.read (anyNaN w x y)).isNaN = true := by
 unfold anyNaN
 generalize w.tape w.drawn (.nanBits .f64 x y) = t
 show (Ieee.double.read ((t % 2) * 2 ^ 63 + 0x7ff0000000000000 + 1 + (t / 2) % (2 ^ 52 - 1))).isNaN = true
 rw [Fl.read_is]
 have h1 : ((t % 2) * 2 ^ 63 + 0x7ff0000000000000 + 1 + (t / 2) % (2 ^ 52 - 1)) % 9223372036854775808 = 0x7ff0000000000000 + 1 + (t / 2) % (2 ^ 52 - 1) := by omega
 rw [h1]
 unfold Fl.rdOf
 rw [if_neg (by omega), if_neg (by omega), if_neg (by omega)]; rfl
theorem run_nan (op : BinOp) (t : TypeId) (x y : Nat) (h : floatBits op .f64 x y = none) (ho : op = .add ∨ op = .sub ∨ op = .mul ∨ op = .quo) (w : World) :
  (binOp op t (.float .f64 x) (.float .f64 y)).run Tryz.prog w = .ok (.float .f64 (anyNaN w x y)) w.drew := by
 unfold floatBits at h
 rcases ho with rfl | rfl | rfl | rfl <;> simp only at h <;> simp [binOp, Op.floatArith, h, anyNaN, Question.forced]
theorem binF_add (x y : Int) (w : World) :
  Calls Tryz.prog 133 #[.int .i64 1, .int .u64 x, .int .u64 y] w fun e w' => e = .returned (.int .u64 (Fl.ar 1 x y)) ∧ ∃ n, w' = w.drewN n := by
 have f1 := frombits
 cases hr : floatBits .add .f64 x.toNat y.toNat with
 | some r =>
  have Ha : Hid (Fl.ar 1 x y = r) := by show (match floatBits .add .f64 x.toNat y.toNat with | some r => (r : Int) | none => Fl.theNaN) = (r : Int); rw [hr]
  have Hn : Hid ((Ieee.double.read r).isNaN = false) := Fl.raw_ok (op := 1) (x := x) (y := y) hr
  have hrun := fun (w : World) (t : TypeId) => run_float_arith (P := Tryz.prog) w .add t .f64 x.toNat y.toNat r hr
  clear hr
  go_enter Tryz.func133, Tryz.ntmps133
  go_wp2_with (first | (go_at_call 145; go_in) | (go_at_call 149; refine (oneNaN_no _ _ Hn.out).mono ?_; rintro e w' ⟨rfl, rfl⟩))
  go_ret
  exact ⟨ret_u64 Ha.out.symm, 0, rfl⟩
 | none =>
  have Ha : Hid (Fl.ar 1 x y = Fl.theNaN) := by show (match floatBits .add .f64 x.toNat y.toNat with | some r => (r : Int) | none => Fl.theNaN) = _; rw [hr]
  have hrun := fun (w : World) (t : TypeId) => run_nan .add t x.toNat y.toNat hr (by simp) w
  clear hr
  go_enter Tryz.func133, Tryz.ntmps133
  go_wp2_with (first | (go_at_call 145; go_in) | (go_at_call 149; refine (oneNaN_yes _ _ (anyNaN_is _ _ _)).mono ?_; rintro e w' ⟨rfl, rfl⟩))
  go_ret
  exact ⟨ret_u64 Ha.out.symm, 1, rfl⟩
theorem binF_sub (x y : Int) (w : World) :
  Calls Tryz.prog 133 #[.int .i64 2, .int .u64 x, .int .u64 y] w fun e w' => e = .returned (.int .u64 (Fl.ar 2 x y)) ∧ ∃ n, w' = w.drewN n := by
 have f1 := frombits
 cases hr : floatBits .sub .f64 x.toNat y.toNat with
 | some r =>
  have Ha : Hid (Fl.ar 2 x y = r) := by show (match floatBits .sub .f64 x.toNat y.toNat with | some r => (r : Int) | none => Fl.theNaN) = (r : Int); rw [hr]
  have Hn : Hid ((Ieee.double.read r).isNaN = false) := Fl.raw_ok (op := 2) (x := x) (y := y) hr
  have hrun := fun (w : World) (t : TypeId) => run_float_arith (P := Tryz.prog) w .sub t .f64 x.toNat y.toNat r hr
  clear hr
  go_enter Tryz.func133, Tryz.ntmps133
  go_wp2_with (first | (go_at_call 145; go_in) | (go_at_call 149; refine (oneNaN_no _ _ Hn.out).mono ?_; rintro e w' ⟨rfl, rfl⟩))
  go_ret
  exact ⟨ret_u64 Ha.out.symm, 0, rfl⟩
 | none =>
  have Ha : Hid (Fl.ar 2 x y = Fl.theNaN) := by show (match floatBits .sub .f64 x.toNat y.toNat with | some r => (r : Int) | none => Fl.theNaN) = _; rw [hr]
  have hrun := fun (w : World) (t : TypeId) => run_nan .sub t x.toNat y.toNat hr (by simp) w
  clear hr
  go_enter Tryz.func133, Tryz.ntmps133
  go_wp2_with (first | (go_at_call 145; go_in) | (go_at_call 149; refine (oneNaN_yes _ _ (anyNaN_is _ _ _)).mono ?_; rintro e w' ⟨rfl, rfl⟩))
  go_ret
  exact ⟨ret_u64 Ha.out.symm, 1, rfl⟩
theorem binF_mul (x y : Int) (w : World) :
  Calls Tryz.prog 133 #[.int .i64 3, .int .u64 x, .int .u64 y] w fun e w' => e = .returned (.int .u64 (Fl.ar 3 x y)) ∧ ∃ n, w' = w.drewN n := by
 have f1 := frombits
 cases hr : floatBits .mul .f64 x.toNat y.toNat with
 | some r =>
  have Ha : Hid (Fl.ar 3 x y = r) := by show (match floatBits .mul .f64 x.toNat y.toNat with | some r => (r : Int) | none => Fl.theNaN) = (r : Int); rw [hr]
  have Hn : Hid ((Ieee.double.read r).isNaN = false) := Fl.raw_ok (op := 3) (x := x) (y := y) hr
  have hrun := fun (w : World) (t : TypeId) => run_float_arith (P := Tryz.prog) w .mul t .f64 x.toNat y.toNat r hr
  clear hr
  go_enter Tryz.func133, Tryz.ntmps133
  go_wp2_with (first | (go_at_call 145; go_in) | (go_at_call 149; refine (oneNaN_no _ _ Hn.out).mono ?_; rintro e w' ⟨rfl, rfl⟩))
  go_ret
  exact ⟨ret_u64 Ha.out.symm, 0, rfl⟩
 | none =>
  have Ha : Hid (Fl.ar 3 x y = Fl.theNaN) := by show (match floatBits .mul .f64 x.toNat y.toNat with | some r => (r : Int) | none => Fl.theNaN) = _; rw [hr]
  have hrun := fun (w : World) (t : TypeId) => run_nan .mul t x.toNat y.toNat hr (by simp) w
  clear hr
  go_enter Tryz.func133, Tryz.ntmps133
  go_wp2_with (first | (go_at_call 145; go_in) | (go_at_call 149; refine (oneNaN_yes _ _ (anyNaN_is _ _ _)).mono ?_; rintro e w' ⟨rfl, rfl⟩))
  go_ret
  exact ⟨ret_u64 Ha.out.symm, 1, rfl⟩
theorem binF_quo (x y : Int) (w : World) :
  Calls Tryz.prog 133 #[.int .i64 4, .int .u64 x, .int .u64 y] w fun e w' => e = .returned (.int .u64 (Fl.ar 4 x y)) ∧ ∃ n, w' = w.drewN n := by
 have f1 := frombits
 cases hr : floatBits .quo .f64 x.toNat y.toNat with
 | some r =>
  have Ha : Hid (Fl.ar 4 x y = r) := by show (match floatBits .quo .f64 x.toNat y.toNat with | some r => (r : Int) | none => Fl.theNaN) = (r : Int); rw [hr]
  have Hn : Hid ((Ieee.double.read r).isNaN = false) := Fl.raw_ok (op := 4) (x := x) (y := y) hr
  have hrun := fun (w : World) (t : TypeId) => run_float_arith (P := Tryz.prog) w .quo t .f64 x.toNat y.toNat r hr
  clear hr
  go_enter Tryz.func133, Tryz.ntmps133
  go_wp2_with (first | (go_at_call 145; go_in) | (go_at_call 149; refine (oneNaN_no _ _ Hn.out).mono ?_; rintro e w' ⟨rfl, rfl⟩))
  go_ret
  exact ⟨ret_u64 Ha.out.symm, 0, rfl⟩
 | none =>
  have Ha : Hid (Fl.ar 4 x y = Fl.theNaN) := by show (match floatBits .quo .f64 x.toNat y.toNat with | some r => (r : Int) | none => Fl.theNaN) = _; rw [hr]
  have hrun := fun (w : World) (t : TypeId) => run_nan .quo t x.toNat y.toNat hr (by simp) w
  clear hr
  go_enter Tryz.func133, Tryz.ntmps133
  go_wp2_with (first | (go_at_call 145; go_in) | (go_at_call 149; refine (oneNaN_yes _ _ (anyNaN_is _ _ _)).mono ?_; rintro e w' ⟨rfl, rfl⟩))
  go_ret
  exact ⟨ret_u64 Ha.out.symm, 1, rfl⟩
theorem binF_cmp (op x y : Int) (w : World) (hc : Wd.cmpB op = true) :
  Calls Tryz.prog 133 #[.int .i64 op, .int .u64 x, .int .u64 y] w fun e w' => e = .returned (.int .u64 (Fl.cmpF op x y)) ∧ w' = w := by
 have f1 := frombits
 go_enter Tryz.func133, Tryz.ntmps133
 go_wp2_with (first | (go_at_call 145; refine (compares_any _ _).mono ?_; rintro e w' ⟨rfl, rfl⟩) | (go_at_call 148; refine (compareF_any _ _ _ _).mono ?_; rintro e w' ⟨rfl, rfl⟩))
 go_ret
 exact ⟨rfl, rfl⟩
theorem binF_any (op x y : Int) (w : World) (hop : Wd.hasBinB op 10 = true) :
  Calls Tryz.prog 133 #[.int .i64 op, .int .u64 x, .int .u64 y] w fun e w' => e = .returned (.int .u64 (Fl.bf op x y)) ∧ ∃ n, w' = w.drewN n := by
 unfold Fl.bf
 cases hc : Wd.cmpB op
 ·have ho : op = 1 ∨ op = 2 ∨ op = 3 ∨ op = 4 := by
   simp [Wd.hasBinB, Wd.intB, hc] at hop; omega
  rw [if_neg (by simp)]
  rcases ho with rfl | rfl | rfl | rfl
  ·exact binF_add x y w
  ·exact binF_sub x y w
  ·exact binF_mul x y w
  ·exact binF_quo x y w
 ·rw [if_pos rfl]
  refine (binF_cmp op x y w hc).mono ?_
  rintro e w' ⟨rfl, rfl⟩
  exact ⟨rfl, 0, rfl⟩
end Go.Proofs.YtkiockffejlnhaaGreatDoor
namespace Go.Proofs.YtkiockffejlnhaaGreatDoor
namespace Wd
def pw (k : Int) : Int := if k = 1 then 2 else if k = 2 ∨ k = 6 then 256 else if k = 3 ∨ k = 7 then 65536 else if k = 4 ∨ k = 8 then 4294967296 else 18446744073709551616
theorem ints {k : Int} (h1 : 2 ≤ k) (h2 : k ≤ 9) : k = 2 ∨ k = 3 ∨ k = 4 ∨ k = 5 ∨ k = 6 ∨ k = 7 ∨ k = 8 ∨ k = 9 := by omega
theorem pw2 : pw 2 = 256 := rfl
theorem pw3 : pw 3 = 65536 := rfl
theorem pw4 : pw 4 = 4294967296 := rfl
theorem pw5 : pw 5 = 18446744073709551616 := rfl
theorem pw6 : pw 6 = 256 := rfl
theorem pw7 : pw 7 = 65536 := rfl
theorem pw8 : pw 8 = 4294967296 := rfl
theorem pw9 : pw 9 = 18446744073709551616 := rfl
theorem canon_add (k z s : Int) (h1 : 2 ≤ k) (h2 : k ≤ 9) : canon k (z + pw k * s) = canon k z := by
 rcases ints h1 h2 with h | h | h | h | h | h | h | h <;> (subst h; simp only [canon2, canon3, canon4, canon5, canon6, canon7, canon8, canon9, pw2, pw3, pw4, pw5, pw6, pw7, pw8, pw9]; omega)
theorem canon_is (k a : Int) (h1 : 2 ≤ k) (h2 : k ≤ 9) : ∃ t, canon k a = a + pw k * t := by
 refine ⟨(canon k a - a) / pw k, ?_⟩
 rcases ints h1 h2 with h | h | h | h | h | h | h | h <;> (subst h; simp only [canon2, canon3, canon4, canon5, canon6, canon7, canon8, canon9, pw2, pw3, pw4, pw5, pw6, pw7, pw8, pw9]; omega)
theorem canon_eq {k a b : Int} (h1 : 2 ≤ k) (h2 : k ≤ 9) (t : Int) (h : a = b + pw k * t) : canon k a = canon k b := by rw [h, canon_add k b t h1 h2]
theorem pw_dvd {k : Int} (h1 : 2 ≤ k) (h2 : k ≤ 9) : ∃ t, (18446744073709551616 : Int) = pw k * t := by
 refine ⟨18446744073709551616 / pw k, ?_⟩
 rcases ints h1 h2 with h | h | h | h | h | h | h | h <;> (subst h; simp only [pw2, pw3, pw4, pw5, pw6, pw7, pw8, pw9]; omega)
theorem is_word {k x : Int} (h1 : 1 ≤ k) (h2 : k ≤ 11) (hw : canon k x = x) : isB k x = true := by simp [isB, h1, h2, hw]
def hf (k : Int) : Int := if k = 2 then 128 else if k = 3 then 32768 else if k = 4 then 2147483648 else 9223372036854775808
theorem hf2 : hf 2 = 128 := rfl
end Wd
namespace Wd
set_option linter.unusedVariables false
def Cg (k a b : Int) : Prop := ∃ t, a = b + pw k * t
theorem Cg.refl (k a : Int) : Cg k a a := ⟨0, by omega⟩
theorem Cg.of {k a b : Int} (h : a = b) : Cg k a b := h ▸ Cg.refl k a
theorem Cg.symm {k a b : Int} (h : Cg k a b) : Cg k b a := by obtain ⟨t, h⟩ := h; exact ⟨-t, by rw [h, Int.mul_neg]; omega⟩
theorem Cg.trans {k a b c : Int} (h : Cg k a b) (g : Cg k b c) : Cg k a c := by obtain ⟨t, h⟩ := h; obtain ⟨u, g⟩ := g; exact ⟨u + t, by rw [h, g, Int.mul_add]; omega⟩
theorem Cg.add {k a b c d : Int} (h : Cg k a b) (g : Cg k c d) : Cg k (a + c) (b + d) := by obtain ⟨t, h⟩ := h; obtain ⟨u, g⟩ := g; exact ⟨t + u, by rw [h, g, Int.mul_add]; omega⟩
theorem Cg.neg {k a b : Int} (h : Cg k a b) : Cg k (-a) (-b) := by obtain ⟨t, h⟩ := h; exact ⟨-t, by rw [h, Int.mul_neg]; omega⟩
theorem Cg.sub {k a b c d : Int} (h : Cg k a b) (g : Cg k c d) : Cg k (a - c) (b - d) := by rw [Int.sub_eq_add_neg, Int.sub_eq_add_neg]; exact h.add g.neg
theorem Cg.mul {k a b c d : Int} (h : Cg k a b) (g : Cg k c d) : Cg k (a * c) (b * d) := by
 obtain ⟨t, h⟩ := h; obtain ⟨u, g⟩ := g
 refine ⟨t * d + b * u + pw k * t * u, ?_⟩
 rw [h, g]
 simp only [Int.add_mul, Int.mul_add, Int.mul_assoc, Int.mul_comm, Int.mul_left_comm]
 omega
theorem Cg.canon {k a : Int} (h1 : 2 ≤ k) (h2 : k ≤ 9) : Cg k (canon k a) a := canon_is k a h1 h2
theorem Cg.eq {k a b : Int} (h1 : 2 ≤ k) (h2 : k ≤ 9) (h : Cg k a b) : Wd.canon k a = Wd.canon k b := by obtain ⟨t, h⟩ := h; exact canon_eq h1 h2 t h
theorem Cg.word {k a x : Int} (h1 : 2 ≤ k) (h2 : k ≤ 9) (hw : Wd.canon k x = x) (h : Cg k a x) : Wd.canon k a = x := by rw [h.eq h1 h2, hw]
theorem Cg.sg {k x : Int} (h1 : 2 ≤ k) (h2 : k ≤ 9) : Cg k (sg x) x := by
 obtain ⟨t, ht⟩ := pw_dvd h1 h2
 refine ⟨t * ((Wd.sg x - x) / 18446744073709551616), ?_⟩
 rw [← Int.mul_assoc, ← ht]; unfold Wd.sg; omega
end Wd
end Go.Proofs.YtkiockffejlnhaaGreatDoor
namespace Go.Proofs.YtkiockffejlnhaaGreatDoor
set_option maxRecDepth 100000
set_option maxHeartbeats 32000000
open Go.RowKit
set_option linter.unusedVariables false
namespace Fl
def binF (op x y : Int) : Int × Int := if Wd.hasBinB op 10 then (bf op x y, 0) else (0, 10)
def binA (op k x y : Int) : Int × Int := if k = 10 then binF op x y else Wd.binI op k x y
end Fl
theorem is10 {x : Int} (h1 : 0 ≤ x) (h2 : x < 18446744073709551616) : Wd.isB 10 x = true := Wd.is_word (by omega) (by omega) (by rw [Wd.canon10]; omega)
theorem binF_ok (op x y : Int) (w : World) (hx : 0 ≤ x) (hx2 : x < 18446744073709551616) (hy : 0 ≤ y) (hy2 : y < 18446744073709551616) (hh : Wd.hasBinB op 10 = true) :
  Calls Tryz.prog 111 #[.int .i64 op, .int .i64 10, .int .u64 x, .int .u64 y] w fun e w' => e = .returned (.tuple #[.int .u64 (Fl.bf op x y), .int .i64 0]) ∧ ∃ n, w' = w.drewN n := by
 have i1 := is10 hx hx2
 have i2 := is10 hy hy2
 have o9 : (op == 9) = false := by rw [beq_eq_false_iff_ne]; rintro rfl; simp [Wd.hasBinB, Wd.intB, Wd.cmpB] at hh
 have o10 : (op == 10) = false := by rw [beq_eq_false_iff_ne]; rintro rfl; simp [Wd.hasBinB, Wd.intB, Wd.cmpB] at hh
 go_enter Tryz.func111, Tryz.ntmps111
 go_wp2_with (first | (go_at_call 131; refine (hasBin_any _ _ _).mono ?_; rintro e w' ⟨rfl, rfl⟩) | (go_at_call 132; refine (is_any _ _ _ (by assumption) (by assumption)).mono ?_; rintro e w' ⟨rfl, rfl⟩) | (go_at_call 133; refine (binF_any _ _ _ _ (by assumption)).mono ?_; rintro e w' ⟨rfl, n, rfl⟩))
 go_ret2
 exact ⟨rfl, _, rfl⟩
theorem binA_any (op k x y : Int) (w : World) (hx : 0 ≤ x) (hx2 : x < 18446744073709551616) (hy : 0 ≤ y) (hy2 : y < 18446744073709551616) :
  Calls Tryz.prog 111 #[.int .i64 op, .int .i64 k, .int .u64 x, .int .u64 y] w fun e w' => e = .returned (.tuple #[.int .u64 (Fl.binA op k x y).1, .int .i64 (Fl.binA op k x y).2]) ∧ ∃ n, w' = w.drewN n := by
 by_cases hk : k = 10
 ·subst hk
  rw [show Fl.binA op 10 x y = Fl.binF op x y from rfl]
  unfold Fl.binF
  cases hh : Wd.hasBinB op 10
  ·rw [if_neg (by simp)]
   refine (binI_kind op 10 x y w hh).mono ?_
   rintro e w' ⟨rfl, rfl⟩
   exact ⟨rfl, 0, rfl⟩
  ·rw [if_pos rfl]
   exact binF_ok op x y w hx hx2 hy hy2 hh
 ·rw [show Fl.binA op k x y = Wd.binI op k x y from if_neg hk]
  refine (binI_any op k x y w hx hx2 hy hy2 hk).mono ?_
  rintro e w' ⟨rfl, rfl⟩
  exact ⟨rfl, 0, rfl⟩
namespace Fl
def bv (op x y : Int) : Int := (binF op x y).1
end Fl
end Go.Proofs.YtkiockffejlnhaaGreatDoor
namespace Go.Proofs.YtkiockffejlnhaaGreatDoor
namespace Fl
open Ieee
set_option linter.unusedVariables false
theorem bv_add (x y : Int) : bv 1 x y = ar 1 x y := rfl
theorem bv_mul (x y : Int) : bv 3 x y = ar 3 x y := rfl
theorem ar_eq {op op' x y x' y' : Int} (h : raw op x y = raw op' x' y') : ar op x y = ar op' x' y' := by unfold ar; rw [h]
theorem add_comm (x y : Int) : bv 1 x y = bv 1 y x := by
 rw [bv_add, bv_add]
 refine ar_eq ?_
 show (Datum.sum _ _).map _ = (Datum.sum _ _).map _
 rw [sum_comm]
theorem mul_comm (x y : Int) : bv 3 x y = bv 3 y x := by
 rw [bv_mul, bv_mul]
 refine ar_eq ?_
 show (Datum.product _ _).map _ = (Datum.product _ _).map _
 rw [product_comm]
end Fl
namespace Fl
open Ieee
set_option linter.unusedVariables false
def cLo : Nat := 14114281232179134464
def cHi : Nat := 4890909195324358656
theorem rd_lo : double.read cLo = .number true 4503599627370496 11 := by decide +kernel
theorem rd_hi : double.read cHi = .number false 4503599627370496 11 := by decide +kernel
def loB (x : Int) : Bool := ordN x.toNat cLo == some .gt || ordN x.toNat cLo == some .eq
def hiB (x : Int) : Bool := ordN x.toNat cHi == some .lt
def toI (x : Int) : Int := match (double.read x.toNat).toInt .zero with | some n => n | none => 0
def trunc (x : Int) : Int := if loB x && hiB x then toI x % 18446744073709551616 else 9223372036854775808
theorem cmp_lt {a b : Int} (h : compare a b = Ordering.lt) : a < b := by
 simp only [compare, compareOfLessAndEq] at h
 by_cases g : a < b
 ·exact g
 ·rw [if_neg g] at h; split at h <;> cases h
theorem cmp_ge {a b : Int} (h : compare a b = Ordering.gt ∨ compare a b = Ordering.eq) : b ≤ a := by
 simp only [compare, compareOfLessAndEq] at h
 by_cases g : a < b
 ·rw [if_pos g] at h; rcases h with h | h <;> cases h
 ·omega
theorem cut_zero (s : Bool) (n d : Nat) : Toward.zero.cut s n d = n / 2 ^ min d (n.log2 + 2) := by
 unfold Toward.cut
 simp only [Nat.one_shiftLeft]
 rfl
theorem cut_le (s : Bool) (n d : Nat) : Toward.zero.cut s n d ≤ n / 2 ^ d := by
 rw [cut_zero]
 by_cases h : d ≤ n.log2 + 2
 ·rw [Nat.min_eq_left h]; exact Nat.le_refl _
 ·rw [Nat.min_eq_right (by omega)]
  have p : n < 2 ^ (n.log2 + 2) := Nat.lt_of_lt_of_le Nat.lt_log2_self (Nat.pow_le_pow_right (by omega) (by omega))
  rw [Nat.div_eq_of_lt p]; exact Nat.zero_le _
theorem cut_bound (s : Bool) (m : Nat) (i : Int) (C : Nat) (h : m * 2 ^ (i - min i 11).toNat ≤ C * 2 ^ (11 - min i 11).toNat) : Toward.zero.cut s (m <<< i.toNat) (-i).toNat ≤ C * 2 ^ 11 := by
 rw [Nat.shiftLeft_eq]
 by_cases hi : 0 ≤ i
 ·rw [show (-i).toNat = 0 by omega]
  refine Nat.le_trans (cut_le s _ 0) ?_
  rw [Nat.pow_zero, Nat.div_one]
  by_cases h11 : i ≤ 11
  ·rw [show min i 11 = i by omega, show (i - i).toNat = 0 by omega, Nat.pow_zero, Nat.mul_one] at h
   have := Nat.mul_le_mul_right (2 ^ i.toNat) h
   rw [Nat.mul_assoc, ← Nat.pow_add, show (11 - i).toNat + i.toNat = 11 by omega] at this
   exact this
  ·rw [show min i 11 = 11 by omega, show ((11 : Int) - 11).toNat = 0 by omega, Nat.pow_zero, Nat.mul_one] at h
   have := Nat.mul_le_mul_right (2 ^ 11) h
   rw [Nat.mul_assoc, ← Nat.pow_add, show (i - 11).toNat + 11 = i.toNat by omega] at this
   exact this
 ·rw [show i.toNat = 0 by omega, Nat.pow_zero, Nat.mul_one]
  refine Nat.le_trans (cut_le s _ _) ?_
  rw [show min i 11 = i by omega, show (i - i).toNat = 0 by omega, Nat.pow_zero, Nat.mul_one, show (11 - i).toNat = 11 + (-i).toNat by omega, Nat.pow_add, ← Nat.mul_assoc] at h
  exact Nat.div_le_of_le_mul (by rw [Nat.mul_comm]; exact h)
theorem cut_bound_lt (s : Bool) (m : Nat) (i : Int) (C : Nat) (h : m * 2 ^ (i - min i 11).toNat < C * 2 ^ (11 - min i 11).toNat) : Toward.zero.cut s (m <<< i.toNat) (-i).toNat < C * 2 ^ 11 := by
 rw [Nat.shiftLeft_eq]
 by_cases hi : 0 ≤ i
 ·rw [show (-i).toNat = 0 by omega]
  refine Nat.lt_of_le_of_lt (cut_le s _ 0) ?_
  rw [Nat.pow_zero, Nat.div_one]
  by_cases h11 : i ≤ 11
  ·rw [show min i 11 = i by omega, show (i - i).toNat = 0 by omega, Nat.pow_zero, Nat.mul_one] at h
   have := Nat.mul_lt_mul_of_pos_right h (Nat.two_pow_pos i.toNat)
   rw [Nat.mul_assoc, ← Nat.pow_add, show (11 - i).toNat + i.toNat = 11 by omega] at this
   exact this
  ·rw [show min i 11 = 11 by omega, show ((11 : Int) - 11).toNat = 0 by omega, Nat.pow_zero, Nat.mul_one] at h
   have := Nat.mul_lt_mul_of_pos_right h (Nat.two_pow_pos 11)
   rw [Nat.mul_assoc, ← Nat.pow_add, show (i - 11).toNat + 11 = i.toNat by omega] at this
   exact this
 ·rw [show i.toNat = 0 by omega, Nat.pow_zero, Nat.mul_one]
  refine Nat.lt_of_le_of_lt (cut_le s _ _) ?_
  rw [show min i 11 = i by omega, show (i - i).toNat = 0 by omega, Nat.pow_zero, Nat.mul_one, show (11 - i).toNat = 11 + (-i).toNat by omega, Nat.pow_add, ← Nat.mul_assoc] at h
  exact Nat.div_lt_of_lt_mul (by rw [Nat.mul_comm]; exact h)
theorem toI_in {x : Int} (h1 : loB x = true) (h2 : hiB x = true) : (double.read x.toNat).toInt .zero = some (toI x) ∧ -9223372036854775808 ≤ toI x ∧ toI x ≤ 9223372036854775807 := by
 have lo : Datum.order (double.read x.toNat) (double.read cLo) = some .gt ∨ Datum.order (double.read x.toNat) (double.read cLo) = some .eq := by
  simpa [loB, ordN, Format.order] using h1
 have hi : Datum.order (double.read x.toNat) (double.read cHi) = some .lt := by
  simpa [hiB, ordN, Format.order] using h2
 unfold toI
 rw [rd_lo] at lo
 rw [rd_hi] at hi
 cases hd : double.read x.toNat with
 | nan s t => rw [hd] at hi; cases hi
 | infinity s =>
  rw [hd] at hi lo
  cases s
  ·simp [Datum.order] at hi
  ·simp [Datum.order] at lo
 | number s m i =>
  rw [hd] at hi lo
  have hz : (Datum.number s m i).toInt .zero = some (signed s (Toward.zero.cut s (m <<< i.toNat) (-i).toNat) 0) := rfl
  rw [hz]
  refine ⟨rfl, ?_⟩
  show -9223372036854775808 ≤ signed s _ 0 ∧ signed s _ 0 ≤ 9223372036854775807
  simp only [Datum.order, Option.some.injEq] at hi lo
  have hi' := cmp_lt hi
  have lo' := cmp_ge lo
  clear hi lo hz hd h1 h2
  unfold signed at *
  simp only [Nat.shiftLeft_eq, Nat.pow_zero, Nat.mul_one] at *
  cases s
  ·simp only [Bool.false_eq_true, if_false] at *
   have := cut_bound_lt false m i 4503599627370496 (by omega)
   rw [Nat.shiftLeft_eq] at this
   omega
  ·simp only [if_true] at *
   have := cut_bound true m i 4503599627370496 (by omega)
   rw [Nat.shiftLeft_eq] at this
   omega
end Fl
end Go.Proofs.YtkiockffejlnhaaGreatDoor
namespace Go.Proofs.YtkiockffejlnhaaGreatDoor
set_option maxRecDepth 100000
set_option maxHeartbeats 32000000
open Go.RowKit
set_option linter.unusedVariables false
namespace Fl
def nr (k x : Int) : Int := (floatOfInt .f64 (if Wd.sgnB k then Wd.sg x else x) : Nat)
def convA (k t x : Int) : Int × Int :=
  if (Wd.numB k && Wd.numB t) = false then (0, 10) else if Wd.isB k x = false then (0, 11) else if k = 10 ∧ t = 10 then (x, 0)
  else if k = 10 then (Wd.canon t (trunc x), 0) else if t = 10 then (nr k x, 0) else (Wd.canon t x, 0)
end Fl
theorem conv_in {x : Int} (h1 : Fl.loB x = true) (h2 : Fl.hiB x = true) (w : World) : (convert 144 2 (.float .f64 x.toNat)).run Tryz.prog w = .ok (.int .i64 (Fl.toI x)) w := by
  obtain ⟨a, b, c⟩ := Fl.toI_in h1 h2
  refine run_convert_float_int w 144 2 .f64 .i64 x.toNat (Fl.toI x) (by rw [Tryz.underlying144]; rfl) Tryz.underlying2 ?_
  unfold floatToIntVal
  have e : (FloatKind.decode .f64 x.toNat).toInt .zero = some (Fl.toI x) := a
  rw [e]
  have d : IntKind.i64.min ≤ Fl.toI x ∧ Fl.toI x ≤ IntKind.i64.max := ⟨b, c⟩
  simp only [if_pos d]
theorem truncate_any (x : Int) (w : World) :
    Calls Tryz.prog 140 #[.int .u64 x] w fun e w' => e = .returned (.int .u64 (Fl.trunc x)) ∧ w' = w := by
  have f1 := frombits
  have Hc : Hid (∀ (h1 : Fl.loB x = true) (h2 : Fl.hiB x = true) (w : World), (convert 144 2 (.float .f64 x.toNat)).run Tryz.prog w = .ok (.int .i64 (Fl.toI x)) w) := fun h1 h2 w => conv_in h1 h2 w
  have Hl : Hid (Fl.loB x = (FloatKind.f64.format.order x.toNat 14114281232179134464 == some .gt || FloatKind.f64.format.order x.toNat 14114281232179134464 == some .eq)) := rfl
  have Hh : Hid (Fl.hiB x = (FloatKind.f64.format.order x.toNat 4890909195324358656 == some .lt)) := rfl
  cases o1 : FloatKind.f64.format.order x.toNat 14114281232179134464 with
  | none =>
    have Ht : Hid (Fl.trunc x = 9223372036854775808) := by show _ = _; unfold Fl.trunc; rw [Hl.out, o1]; rfl
    go_enter Tryz.func140, Tryz.ntmps140
    go_wp2
    go_ret
    exact ⟨ret_u64 Ht.out.symm, rfl⟩
  | some p =>
    cases o2 : FloatKind.f64.format.order x.toNat 4890909195324358656 with
    | none =>
      have Ht : Hid (Fl.trunc x = 9223372036854775808) := by show _ = _; unfold Fl.trunc; rw [Hl.out, Hh.out, o1, o2]; cases p <;> rfl
      cases p
      all_goals
        go_enter Tryz.func140, Tryz.ntmps140
        go_wp2
        go_ret
        exact ⟨ret_u64 Ht.out.symm, rfl⟩
    | some q =>
      cases p <;> cases q
      all_goals first
        | (have h1 : Fl.loB x = true := by rw [Hl.out, o1]; rfl
           have h2 : Fl.hiB x = true := by rw [Hh.out, o2]; rfl
           have Ht : Hid (Fl.trunc x = Fl.toI x % 18446744073709551616) := by show _ = _; unfold Fl.trunc; rw [h1, h2]; rfl
           have hc := Hc.out h1 h2
           clear h1 h2
           go_enter Tryz.func140, Tryz.ntmps140
           go_wp2
           go_ret
           exact ⟨ret_u64 (by rw [Ht.out, IntKind.wrap_u64]), rfl⟩)
        | (have Ht : Hid (Fl.trunc x = 9223372036854775808) := by show _ = _; unfold Fl.trunc; rw [Hl.out, Hh.out, o1, o2]; rfl
           go_enter Tryz.func140, Tryz.ntmps140
           go_wp2
           go_ret
           exact ⟨ret_u64 Ht.out.symm, rfl⟩)
theorem trunc_rng (x : Int) : 0 ≤ Fl.trunc x ∧ Fl.trunc x < 18446744073709551616 := by unfold Fl.trunc; split <;> omega
theorem nearest_any (k x : Int) (w : World) (hx : 0 ≤ x) (hx2 : x < 18446744073709551616) :
    Calls Tryz.prog 141 #[.int .i64 k, .int .u64 x] w fun e w' => e = .returned (.int .u64 (Fl.nr k x)) ∧ w' = w := by
  have f2 := tobits
  cases hs : Wd.sgnB k
  · have Hn : Hid (Fl.nr k x = (floatOfInt .f64 x : Nat)) := by show _ = _; unfold Fl.nr; rw [hs]; rfl
    go_enter Tryz.func141, Tryz.ntmps141
    go_wp2_with (go_at_call 134; refine (signed_any _ _).mono ?_; rintro e w' ⟨rfl, rfl⟩)
    go_ret
    exact ⟨ret_u64 Hn.out.symm, rfl⟩
  · have Hn : Hid (Fl.nr k x = (floatOfInt .f64 (wrap64 x) : Nat)) := by show _ = _; unfold Fl.nr; rw [hs, sg_wrap]; rfl
    go_enter Tryz.func141, Tryz.ntmps141
    go_wp2_with (go_at_call 134; refine (signed_any _ _).mono ?_; rintro e w' ⟨rfl, rfl⟩)
    go_ret
    exact ⟨ret_u64 Hn.out.symm, rfl⟩
theorem conv_kind (k t x : Int) (w : World) (h : (Wd.numB k && Wd.numB t) = false) :
    Calls Tryz.prog 113 #[.int .i64 k, .int .i64 t, .int .u64 x] w fun e w' => e = .returned (.tuple #[.int .u64 0, .int .i64 10]) ∧ w' = w := by
  have h' : Wd.numB k = false ∨ Wd.numB k = true ∧ Wd.numB t = false := by revert h; cases Wd.numB k <;> cases Wd.numB t <;> simp
  clear h
  rcases h' with h | ⟨h, g⟩
  all_goals
    go_enter Tryz.func113, Tryz.ntmps113
    go_wp2_with (go_at_call 139; refine (number_any _ _).mono ?_; rintro e w' ⟨rfl, rfl⟩)
    go_ret2
    exact ⟨rfl, rfl⟩
theorem conv_form (k t x : Int) (w : World) (hx : 0 ≤ x) (hx2 : x < 18446744073709551616) (h : Wd.numB k = true) (g : Wd.numB t = true) (hi : Wd.isB k x = false) :
    Calls Tryz.prog 113 #[.int .i64 k, .int .i64 t, .int .u64 x] w fun e w' => e = .returned (.tuple #[.int .u64 0, .int .i64 11]) ∧ w' = w := by
  go_enter Tryz.func113, Tryz.ntmps113
  go_wp2_with (first | (go_at_call 139; refine (number_any _ _).mono ?_; rintro e w' ⟨rfl, rfl⟩) | (go_at_call 132; refine (is_any _ _ _ (by assumption) (by assumption)).mono ?_; rintro e w' ⟨rfl, rfl⟩))
  go_ret2
  exact ⟨rfl, rfl⟩
theorem conv_ok (k t x : Int) (w : World) (hx : 0 ≤ x) (hx2 : x < 18446744073709551616) (h : Wd.numB k = true) (g : Wd.numB t = true) (hi : Wd.isB k x = true) :
    Calls Tryz.prog 113 #[.int .i64 k, .int .i64 t, .int .u64 x] w fun e w' => e = .returned (.tuple #[.int .u64 (if k = 10 ∧ t = 10 then x else if k = 10 then Wd.canon t (Fl.trunc x) else if t = 10 then Fl.nr k x else Wd.canon t x), .int .i64 0]) ∧ w' = w := by
  have tr1 := (trunc_rng x).1
  have tr2 := (trunc_rng x).2
  by_cases hk : k = 10
  · by_cases ht : t = 10
    · subst hk ht
      rw [if_pos ⟨rfl, rfl⟩]
      go_enter Tryz.func113, Tryz.ntmps113
      go_wp2_with (first | (go_at_call 139; refine (number_any _ _).mono ?_; rintro e w' ⟨rfl, rfl⟩) | (go_at_call 132; refine (is_any _ _ _ (by assumption) (by assumption)).mono ?_; rintro e w' ⟨rfl, rfl⟩))
      go_ret2
      exact ⟨rfl, rfl⟩
    · subst hk
      rw [if_neg (fun h => ht h.2), if_pos rfl]
      have ht' : (t == 10) = false := by simpa using ht
      clear ht
      go_enter Tryz.func113, Tryz.ntmps113
      go_wp2_with (first | (go_at_call 139; refine (number_any _ _).mono ?_; rintro e w' ⟨rfl, rfl⟩) | (go_at_call 132; refine (is_any _ _ _ (by assumption) (by assumption)).mono ?_; rintro e w' ⟨rfl, rfl⟩) | (go_at_call 140; refine (truncate_any _ _).mono ?_; rintro e w' ⟨rfl, rfl⟩) | (go_at_call 123; refine (canon_any _ _ _ (by assumption) (by assumption)).mono ?_; rintro e w' ⟨rfl, rfl⟩))
      go_ret2
      exact ⟨rfl, rfl⟩
  · rw [if_neg (fun h => hk h.1), if_neg hk]
    have hk' : (k == 10) = false := by simpa using hk
    clear hk
    by_cases ht : t = 10
    · subst ht
      rw [if_pos rfl]
      go_enter Tryz.func113, Tryz.ntmps113
      go_wp2_with (first | (go_at_call 139; refine (number_any _ _).mono ?_; rintro e w' ⟨rfl, rfl⟩) | (go_at_call 132; refine (is_any _ _ _ (by assumption) (by assumption)).mono ?_; rintro e w' ⟨rfl, rfl⟩) | (go_at_call 141; refine (nearest_any _ _ _ (by assumption) (by assumption)).mono ?_; rintro e w' ⟨rfl, rfl⟩))
      go_ret2
      exact ⟨rfl, rfl⟩
    · rw [if_neg ht]
      have ht' : (t == 10) = false := by simpa using ht
      clear ht
      go_enter Tryz.func113, Tryz.ntmps113
      go_wp2_with (first | (go_at_call 139; refine (number_any _ _).mono ?_; rintro e w' ⟨rfl, rfl⟩) | (go_at_call 132; refine (is_any _ _ _ (by assumption) (by assumption)).mono ?_; rintro e w' ⟨rfl, rfl⟩) | (go_at_call 123; refine (canon_any _ _ _ (by assumption) (by assumption)).mono ?_; rintro e w' ⟨rfl, rfl⟩))
      go_ret2
      exact ⟨rfl, rfl⟩
theorem conv_any (k t x : Int) (w : World) (hx : 0 ≤ x) (hx2 : x < 18446744073709551616) :
    Calls Tryz.prog 113 #[.int .i64 k, .int .i64 t, .int .u64 x] w fun e w' => e = .returned (.tuple #[.int .u64 (Fl.convA k t x).1, .int .i64 (Fl.convA k t x).2]) ∧ w' = w := by
  cases hn : (Wd.numB k && Wd.numB t)
  · have e : Fl.convA k t x = (0, 10) := by unfold Fl.convA; rw [if_pos hn]
    rw [e]; exact conv_kind k t x w hn
  · obtain ⟨h, g⟩ : Wd.numB k = true ∧ Wd.numB t = true := by simpa using hn
    cases hi : Wd.isB k x
    · have e : Fl.convA k t x = (0, 11) := by unfold Fl.convA; rw [if_neg (by simp [hn]), if_pos hi]
      rw [e]; exact conv_form k t x w hx hx2 h g hi
    · have e : Fl.convA k t x = (if k = 10 ∧ t = 10 then x else if k = 10 then Wd.canon t (Fl.trunc x) else if t = 10 then Fl.nr k x else Wd.canon t x, 0) := by
        unfold Fl.convA; rw [if_neg (by simp [hn]), if_neg (by simp [hi])]
        repeat' split
        all_goals rfl
      rw [e]; exact conv_ok k t x w hx hx2 h g hi
namespace Rc
def fitB (v : InV) : Bool := !(v.op == 0) && regB v.a && regB v.b && regB v.c && kindB v
theorem bin_e (s k : Int) : ((Fl.binA s k 0 0).2 == 10) = !Wd.hasBinB s k := by
 unfold Fl.binA Fl.binF Wd.binI
 by_cases hk : k = 10
 ·subst hk; rw [if_pos rfl]; cases Wd.hasBinB s 10 <;> rfl
 ·rw [if_neg hk]
  cases Wd.hasBinB s k
  ·rfl
  ·rw [if_neg (by simp)]
   repeat' split
   all_goals rfl
theorem un_e (s k : Int) : ((Wd.unI s k 0).2 == 10) = !Wd.hasUnB s k := by
 unfold Wd.unI
 cases Wd.hasUnB s k
 ·rfl
 ·rw [if_neg (by simp)]
  repeat' split
  all_goals rfl
theorem conv_e (s k : Int) : ((Fl.convA s k 0).2 == 10) = !(Wd.numB s && Wd.numB k) := by
 unfold Fl.convA
 cases (Wd.numB s && Wd.numB k)
 ·rfl
 ·rw [if_neg (by simp)]
  repeat' split
  all_goals rfl
theorem wid_e (k : Int) : decide (0 < Wd.wid k) = Wd.wordB k := by
 unfold Wd.wid Wd.wordB
 rw [Bool.eq_iff_iff]
 simp only [decide_eq_true_eq, Bool.and_eq_true]
 repeat' split
 all_goals omega
theorem bin_ne (s k : Int) : ((Fl.binA s k 0 0).2 != 10) = Wd.hasBinB s k := by rw [bne, bin_e]; simp
theorem un_ne (s k : Int) : ((Wd.unI s k 0).2 != 10) = Wd.hasUnB s k := by rw [bne, un_e]; simp
theorem conv_ne (s k : Int) : ((Fl.convA s k 0).2 != 10) = (Wd.numB s && Wd.numB k) := by rw [bne, conv_e]; simp
theorem fit_c (v : InV) : fitB v = (!(v.op == 0) && regB v.a && regB v.b && regB v.c && kindC v) := by unfold fitB; rw [kind_c]
end Rc
theorem fits_any (v : InV) (w : World) :
  Calls Tryz.prog 79 #[inst v] w fun e w' => e = .returned (.bool (Rc.fitB v)) ∧ w.grownBy w' none := by
 unfold inst
 go_enter Tryz.func79, Tryz.ntmps79
 go_wp2_with (first
  | (go_at_call 110; refine (isReg_any _ _).mono ?_; rintro e w' ⟨rfl, rfl⟩)
  | (go_at_call 111; refine (binA_any _ _ 0 0 _ (by decide) (by decide) (by decide) (by decide)).mono ?_; rintro e w' ⟨rfl, n, rfl⟩)
  | (go_at_call 112; refine (un_any _ _ 0 _ (by decide) (by decide)).mono ?_; rintro e w' ⟨rfl, rfl⟩)
  | (go_at_call 113; refine (conv_any _ _ 0 _ (by decide) (by decide)).mono ?_; rintro e w' ⟨rfl, rfl⟩)
  | (go_at_call 114; refine (width_any _ _).mono ?_; rintro e w' ⟨rfl, rfl⟩))
 all_goals
  go_ret
  refine ⟨ret_bool ?_, ?_⟩
  ·rw [Rc.fit_c]
   try rw [Rc.bin_ne]
   try rw [Rc.un_ne]
   try rw [Rc.conv_ne]
   try rw [Rc.wid_e]
   unfold Rc.kindC
   first | (simp [*]; done) | (simp_all; done) | (simp_all; omega)
  ·first | exact gal | exact grown_drewN gal _
theorem rcmp_any (k : Int) (w : World) :
  Calls Tryz.prog 130 #[.int .i64 k] w fun e w' => e = .returned (.bool (Wd.cmpB k)) ∧ w' = w := by
 go_enter Tryz.func130, Tryz.ntmps130
 go_wp2
 all_goals (go_ret; refine ⟨ret_bool ?_, rfl⟩; simp only [Wd.cmpB] at *; first | (rw [Bool.eq_iff_iff]; simp at *; omega))
theorem rcond_any (k : Int) (w : World) :
  Calls Tryz.prog 108 #[.int .i64 k] w fun e w' => e = .returned (.bool (Wd.cmpB k)) ∧ w' = w := by
 go_enter Tryz.func108, Tryz.ntmps108
 go_wp2_with (go_at_call 130; refine (rcmp_any _ _).mono ?_; rintro e w' ⟨rfl, rfl⟩)
 go_ret
 exact ⟨rfl, rfl⟩
theorem rsize_any (n : Int) (w : World) :
  Calls Tryz.prog 52 #[.int .i64 n] w fun e w' => e = .returned (.int .i64 (Cc.size n)) ∧ w' = w := by
 go_enter Tryz.func52, Tryz.ntmps52
 go_wp2_with (go_at_call 71; refine (rsmall_any _ _).mono ?_; rintro e w' ⟨rfl, rfl⟩)
 all_goals (go_ret; refine ⟨ret_i64 ?_, rfl⟩; (try simp only [Rc.smallB, Bool.and_eq_true, Bool.and_eq_false_iff, decide_eq_true_eq, decide_eq_false_iff_not] at *); unfold Cc.size; (repeat' split) <;> omega)
theorem rbytes4_any (s : Int) (w : World) :
  Calls Tryz.prog 75 #[.int .i64 s] w fun e w' => e = .returned (.int .i64 (Cc.cnt s)) ∧ w' = w := by
 go_enter Tryz.func75, Tryz.ntmps75
 go_wp2
 all_goals (go_ret; refine ⟨ret_i64 ?_, rfl⟩; simp only [beq_iff_eq, beq_eq_false_iff_ne] at *; unfold Cc.cnt; simp [*])
theorem rlog_any (s : Int) (w : World) :
  Calls Tryz.prog 73 #[.int .i64 s] w fun e w' => e = .returned (.int .i64 (Cc.lg s)) ∧ w' = w := by
 go_enter Tryz.func73, Tryz.ntmps73
 go_wp2
 all_goals (go_ret; refine ⟨ret_i64 ?_, rfl⟩; simp only [beq_iff_eq, beq_eq_false_iff_ne] at *; unfold Cc.lg; simp [*])
theorem wrap_i8 (x : Int) : IntKind.i8.wrap x = (x + 128) % 256 - 128 := by
 simp [IntKind.wrap, IntKind.bits, IntKind.signed]
 split <;> omega
theorem csize_any (n : Int) (w : World) (h1 : -9223372036854775808 ≤ n) (h2 : n ≤ 9223372036854775807) :
  Calls Tryz.prog 124 #[.int .i64 n] w fun e w' => e = .returned (.int .i64 (Cc.size n)) ∧ w' = w := by
 go_enter Tryz.func124, Tryz.ntmps124
 go_wp2
 all_goals (go_ret; refine ⟨ret_i64 ?_, rfl⟩; simp only [beq_iff_eq, beq_eq_false_iff_ne, ne_eq] at *; unfold Cc.size; simp only [wrap64, wrap32, wrap_i8] at *; (repeat' split) <;> omega)
theorem cbytes_any (s : Int) (w : World) :
  Calls Tryz.prog 128 #[.int .i64 s] w fun e w' => e = .returned (.int .i64 (Cc.cnt s)) ∧ w' = w := by
 go_enter Tryz.func128, Tryz.ntmps128
 go_wp2
 all_goals (go_ret; refine ⟨ret_i64 ?_, rfl⟩; simp only [beq_iff_eq, beq_eq_false_iff_ne] at *; unfold Cc.cnt; simp [*])
theorem cpair_any (a b : Int) (w : World) :
  Calls Tryz.prog 125 #[.int .i64 a, .int .i64 b] w fun e w' => e = .returned (.int .u8 ((16 * a + b) % 256)) ∧ w' = w := by
 go_enter Tryz.func125, Tryz.ntmps125
 go_wp2
 go_ret
 refine ⟨?_, rfl⟩
 have e : ∀ x y : Int, x = y → Ending.returned (.int .u8 x) = .returned (.int .u8 y) := fun _ _ h => by rw [h]
 exact e _ _ (by simp only [wrap64]; omega)
theorem cshift_any (k : Int) (w : World) :
  Calls Tryz.prog 86 #[.int .i64 k] w fun e w' => e = .returned (.bool (Wd.shB k)) ∧ w' = w := by
 go_enter Tryz.func86, Tryz.ntmps86
 go_wp2
 all_goals (go_ret; refine ⟨ret_bool ?_, rfl⟩; simp only [Wd.shB] at *; (try simp_all))
theorem ccond_any (k : Int) (w : World) :
  Calls Tryz.prog 90 #[.int .i64 k] w fun e w' => e = .returned (.bool (Wd.cmpB k)) ∧ w' = w := by
 go_enter Tryz.func90, Tryz.ntmps90
 go_wp2
 all_goals (go_ret; refine ⟨ret_bool ?_, rfl⟩; simp only [Wd.cmpB] at *; first | (rw [Bool.eq_iff_iff]; simp at *; omega))
theorem cint_any (k : Int) (w : World) :
  Calls Tryz.prog 122 #[.int .i64 k] w fun e w' => e = .returned (.bool (Wd.intB k)) ∧ w' = w := by
 go_enter Tryz.func122, Tryz.ntmps122
 go_wp2
 all_goals (go_ret; refine ⟨ret_bool ?_, rfl⟩; simp only [Wd.intB] at *; first | (rw [Bool.eq_iff_iff]; simp at *; omega))
theorem cword_any (k : Int) (w : World) :
  Calls Tryz.prog 89 #[.int .i64 k] w fun e w' => e = .returned (.bool (Wd.wordB k)) ∧ w' = w := by
 go_enter Tryz.func89, Tryz.ntmps89
 go_wp2_with (go_at_call 114; refine (width_any _ _).mono ?_; rintro e w' ⟨rfl, rfl⟩)
 go_ret
 exact ⟨ret_bool (Rc.wid_e k), rfl⟩
namespace Cc
def divB (s k : Int) : Bool := Wd.intB k && (s == 4 || s == 5)
def fnB (s k n : Int) : Bool := Wd.intB k && (Rc.s32 (Wd.canon (if Wd.shB s then 9 else k) (n % 18446744073709551616)) == n)
def sclC (n : Int) : Int := if n = 15 then 0 else 2 ^ n.toNat
end Cc
theorem cdiv_any (s k : Int) (w : World) :
  Calls Tryz.prog 84 #[.int .i64 s, .int .i64 k] w fun e w' => e = .returned (.bool (Cc.divB s k)) ∧ w' = w := by
 cases hk : Wd.intB k
 all_goals
  go_enter Tryz.func84, Tryz.ntmps84
  go_wp2_with (go_at_call 122; refine (cint_any _ _).mono ?_; rw [hk]; rintro e w' ⟨rfl, rfl⟩)
  all_goals (go_ret; refine ⟨ret_bool ?_, rfl⟩; simp only [Cc.divB] at *; simp_all)
theorem chasBin_any (s k : Int) (w : World) :
  Calls Tryz.prog 82 #[.int .i64 s, .int .i64 k] w fun e w' => e = .returned (.bool (Wd.hasBinB s k)) ∧ ∃ n, w' = w.drewN n := by
 go_enter Tryz.func82, Tryz.ntmps82
 go_wp2_with (go_at_call 111; refine (binA_any _ _ 0 0 _ (by decide) (by decide) (by decide) (by decide)).mono ?_; rintro e w' ⟨rfl, n, rfl⟩)
 go_ret
 exact ⟨ret_bool (Rc.bin_ne s k), n, rfl⟩
theorem chasUn_any (s k : Int) (w : World) :
  Calls Tryz.prog 87 #[.int .i64 s, .int .i64 k] w fun e w' => e = .returned (.bool (Wd.hasUnB s k)) ∧ w' = w := by
 go_enter Tryz.func87, Tryz.ntmps87
 go_wp2_with (go_at_call 112; refine (un_any _ _ 0 _ (by decide) (by decide)).mono ?_; rintro e w' ⟨rfl, rfl⟩)
 go_ret
 exact ⟨ret_bool (Rc.un_ne s k), rfl⟩
theorem chasConv_any (s k : Int) (w : World) :
  Calls Tryz.prog 88 #[.int .i64 s, .int .i64 k] w fun e w' => e = .returned (.bool (Wd.numB s && Wd.numB k)) ∧ w' = w := by
 go_enter Tryz.func88, Tryz.ntmps88
 go_wp2_with (go_at_call 113; refine (conv_any _ _ 0 _ (by decide) (by decide)).mono ?_; rintro e w' ⟨rfl, rfl⟩)
 go_ret
 exact ⟨ret_bool (Rc.conv_ne s k), rfl⟩
end Go.Proofs.YtkiockffejlnhaaGreatDoor
namespace Go.Proofs.YtkiockffejlnhaaGreatDoor
open Go.RowKit
set_option linter.unusedVariables false
namespace Cc
def tzL : List Int := [0, 1, 56, 2, 57, 49, 28, 3, 61, 58, 42, 50, 38, 29, 17, 4, 62, 47, 59, 36, 45, 43, 51, 22, 53, 39, 33, 30, 24, 18, 12, 5, 63, 55, 48, 27, 60, 41, 37, 16, 46, 35, 44, 21, 52, 32, 23, 11, 54, 26, 40, 15, 34, 20, 31, 10, 25, 14, 19, 9, 13, 8, 7, 6]
end Cc
def TabAt (w : World) : Prop := 2 < w.heap.size ∧ ∀ i, i < 64 → w.cell? ⟨2, i, none⟩ = some (.int .u8 (Cc.tzL.getD i 0))
theorem TabAt.kept {w w' : World} {row : Option Nat} (h : TabAt w) (hg : w.grownBy w' row) (hr : some 2 ≠ row) : TabAt w' := ⟨Nat.lt_of_lt_of_le h.1 hg.size, fun i hi => hg.cell (h.2 i hi) hr⟩
theorem TabAt.below {w w' : World} {N : Nat} (h : TabAt w) (hg : Below N w w') (hN : N = w.heap.size) : TabAt w' := ⟨Nat.lt_of_lt_of_le h.1 hg.size, fun i hi => (hg.cell (p := ⟨2, i, none⟩) (by rw [hN]; exact h.1)).trans (h.2 i hi)⟩
namespace Cc
def tzI (x : Int) : Int := IntKind.u64.wrap (bits BinOp.and IntKind.u64 x (IntKind.u64.wrap (-x)) * 285870213051353865) / 288230376151711744
theorem tzI_rng (x : Int) : 0 ≤ tzI x ∧ tzI x < 64 := by
 unfold tzI
 rw [IntKind.wrap_u64]
 omega
end Cc
def LogIs (s L : Int) : Prop := (s = 0 → L = 15) ∧ (s = 1 → L = 0) ∧ (s = 2 → L = 1) ∧ (s = 4 → L = 2) ∧ (s = 8 → L = 3)
end Go.Proofs.YtkiockffejlnhaaGreatDoor
