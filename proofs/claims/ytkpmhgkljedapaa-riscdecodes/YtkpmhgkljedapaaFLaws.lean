/- The laws of floats: plain. -/
import Derived.Test.YtkpmhgkljedapaaFBin
namespace Go.Proofs.Ytkpmhgkljedapaa
namespace Fl
open Ieee
set_option linter.unusedVariables false

theorem opp_rdOf (neg : Bool) (r : Nat) : (rdOf neg r).opposite = rdOf (!neg) r := by
  unfold rdOf; repeat' split
  all_goals rfl
theorem flip_read {y : Int} (h1 : 0 ≤ y) (h2 : y < 18446744073709551616) : double.read (Wd.flip y).toNat = (double.read y.toNat).opposite := by
  rw [read_is, read_is, opp_rdOf]
  unfold Wd.flip
  split
  · rw [show (y + 9223372036854775808).toNat / 9223372036854775808 % 2 = 1 by omega, show y.toNat / 9223372036854775808 % 2 = 0 by omega, show (y + 9223372036854775808).toNat % 9223372036854775808 = y.toNat % 9223372036854775808 by omega]; rfl
  · rw [show (y - 9223372036854775808).toNat / 9223372036854775808 % 2 = 0 by omega, show y.toNat / 9223372036854775808 % 2 = 1 by omega, show (y - 9223372036854775808).toNat % 9223372036854775808 = y.toNat % 9223372036854775808 by omega]; rfl

theorem bv_add (x y : Int) : bv 1 x y = ar 1 x y := rfl
theorem bv_sub (x y : Int) : bv 2 x y = ar 2 x y := rfl
theorem bv_mul (x y : Int) : bv 3 x y = ar 3 x y := rfl
theorem bv_eq (x y : Int) : bv 11 x y = Wd.tr (ordN x.toNat y.toNat == some .eq) := rfl
theorem bv_ne (x y : Int) : bv 12 x y = Wd.tr (ordN x.toNat y.toNat != some .eq) := rfl
theorem bv_lt (x y : Int) : bv 13 x y = Wd.tr (ordN x.toNat y.toNat == some .lt) := rfl
theorem bv_gt (x y : Int) : bv 15 x y = Wd.tr (ordN x.toNat y.toNat == some .gt) := rfl

theorem ar_eq {op op' x y x' y' : Int} (h : raw op x y = raw op' x' y') : ar op x y = ar op' x' y' := by unfold ar; rw [h]
theorem add_comm (x y : Int) : bv 1 x y = bv 1 y x := by
  rw [bv_add, bv_add]
  refine ar_eq ?_
  show (Datum.sum _ _).map _ = (Datum.sum _ _).map _
  rw [sum_comm]
theorem mul_comm (x y : Int) : bv 3 x y = bv 3 y x := by
  rw [bv_mul, bv_mul]
  refine ar_eq ?_
  show (Datum.product _ _).map _ = (Datum.product _ _).map _
  rw [product_comm]
theorem sub_flip (x y : Int) (h1 : 0 ≤ y) (h2 : y < 18446744073709551616) : bv 2 x y = bv 1 x (Wd.flip y) := by
  rw [bv_sub, bv_add]
  refine ar_eq ?_
  show (Datum.sum (double.read x.toNat) (double.read y.toNat).opposite).map _ = (Datum.sum (double.read x.toNat) (double.read (Wd.flip y).toNat)).map _
  rw [flip_read h1 h2]
theorem sum_nan (x y : Int) : bv 12 (bv 1 x y) (bv 1 x y) = 0 ∨ bv 1 x y = 9221120237041090560 := by
  rw [bv_add]
  unfold ar
  cases h : raw 1 x y with
  | none => right; rfl
  | some r =>
    left
    show bv 12 (r : Int) (r : Int) = 0
    rw [bv_ne, Int.toNat_natCast]
    unfold ordN
    show Wd.tr (Datum.order (double.read r) (double.read r) != some .eq) = 0
    rw [order_self (raw_ok h)]; rfl
theorem nan_ord (x : Int) : ordN (9221120237041090560 : Int).toNat x.toNat = none := by
  have h : (double.read 9221120237041090560).isNaN = true := by decide +kernel
  exact order_nan (e := double.read x.toNat) h
theorem nan_eq (x : Int) : bv 11 9221120237041090560 x = 0 := by rw [bv_eq, nan_ord]; rfl
theorem nan_ne (x : Int) : bv 12 9221120237041090560 x = 1 := by rw [bv_ne, nan_ord]; rfl
theorem noughts : bv 11 0 9223372036854775808 = 1 := by decide +kernel
theorem lt_gt (x y : Int) : bv 13 x y = bv 15 y x := by
  rw [bv_lt, bv_gt]
  have h : ordN x.toNat y.toNat = (ordN y.toNat x.toNat).map Ordering.swap := order_swap _ _
  rw [h]
  cases ordN y.toNat x.toNat with
  | none => rfl
  | some o => cases o <;> rfl
theorem one_of (x y : Int) : bv 13 x y + bv 11 x y + bv 15 x y ≤ 1 := by
  rw [bv_lt, bv_gt, bv_eq]
  cases ordN x.toNat y.toNat with
  | none => decide
  | some o => cases o <;> decide
theorem b01 (op x y : Int) (h : op = 13 ∨ op = 11 ∨ op = 15) : 0 ≤ bv op x y ∧ bv op x y ≤ 1 := by
  rcases h with rfl | rfl | rfl <;> exact tr01 _
theorem flip_rng {y : Int} (h1 : 0 ≤ y) (h2 : y < 18446744073709551616) : 0 ≤ Wd.flip y ∧ Wd.flip y < 18446744073709551616 := by unfold Wd.flip; split <;> omega
theorem un_flip {y : Int} (h1 : 0 ≤ y) (h2 : y < 18446744073709551616) : Wd.unI 1 10 y = (Wd.flip y, 0) := by
  rw [unI_ok (by decide) (is10 h1 h2), if_neg (by decide), if_neg (by decide), if_pos rfl]

end Fl
end Go.Proofs.Ytkpmhgkljedapaa
