/- The float functions of package word: contracts. -/
import Derived.Test.YtkpmhgkljedapaaUn
import Derived.Test.YtkpmhgkljedapaaFPlain
import Derived.Laws.FloatArith
import Derived.Deep.Draws
namespace Go.Proofs.Ytkpmhgkljedapaa
open Go.RowKit
set_option linter.unusedVariables false

theorem frombits (x : Int) (w : World) : (callFunc 54 #[.int .u64 x]).run Try.prog w = .ok (.value (.float .f64 x.toNat)) w := by kernel_rfl
theorem tobits (b : Nat) (w : World) : (callFunc 59 #[.float .f64 b]).run Try.prog w = .ok (.value (.int .u64 b)) w := by kernel_rfl

theorem ord_nat (a b : Nat) : Fl.ordN a b = FloatKind.f64.format.order a b := rfl

set_option maxHeartbeats 400000 in
theorem compareF_any (op : Int) (a b : Nat) (w : World) :
    Calls Try.prog 55 #[.int .i64 op, .float .f64 a, .float .f64 b] w fun e w' => e = .returned (.int .u64 (Fl.cmpN op a b)) ∧ w' = w := by
  go_enter Try.func55, Try.ntmps55
  go_wp2
  all_goals
    go_ret
    refine ⟨ret_u64 ?_, rfl⟩
    unfold Fl.cmpN Wd.tr
    rw [ord_nat]
    generalize FloatKind.f64.format.order a b = o at *
    simp_all

/-- a float that is one: a test against itself -/
theorem self_eq {b : Nat} (h : (Ieee.double.read b).isNaN = false) : (FloatKind.f64.format.order b b != some Ordering.eq) = false := by
  show (Ieee.Datum.order (Ieee.double.read b) (Ieee.double.read b) != some Ordering.eq) = false
  rw [Fl.order_self h]; rfl
theorem self_ne {b : Nat} (h : (Ieee.double.read b).isNaN = true) : (FloatKind.f64.format.order b b != some Ordering.eq) = true := by
  show (Ieee.Datum.order (Ieee.double.read b) (Ieee.double.read b) != some Ordering.eq) = true
  rw [Fl.order_nan h]; rfl

set_option maxHeartbeats 400000 in
theorem oneNaN_no (b : Nat) (w : World) (h : (Ieee.double.read b).isNaN = false) :
    Calls Try.prog 56 #[.float .f64 b] w fun e w' => e = .returned (.int .u64 b) ∧ w' = w := by
  have hb := tobits b
  have hs := self_eq h
  clear h
  go_enter Try.func56, Try.ntmps56
  go_wp2
  go_ret
  exact ⟨rfl, rfl⟩
set_option maxHeartbeats 400000 in
theorem oneNaN_yes (b : Nat) (w : World) (h : (Ieee.double.read b).isNaN = true) :
    Calls Try.prog 56 #[.float .f64 b] w fun e w' => e = .returned (.int .u64 Fl.theNaN) ∧ w' = w := by
  have hs := self_ne h
  clear h
  go_enter Try.func56, Try.ntmps56
  go_wp2
  go_ret
  exact ⟨rfl, rfl⟩

/-- the NaN that the machine makes -/
def anyNaN (w : World) (x y : Nat) : Nat := Question.cut (.nanBits .f64 x y) (w.tape w.drawn (.nanBits .f64 x y))
theorem anyNaN_is (w : World) (x y : Nat) : (Ieee.double.read (anyNaN w x y)).isNaN = true := by
  unfold anyNaN
  generalize w.tape w.drawn (.nanBits .f64 x y) = t
  show (Ieee.double.read ((t % 2) * 2 ^ 63 + 0x7ff0000000000000 + 1 + (t / 2) % (2 ^ 52 - 1))).isNaN = true
  rw [Fl.read_is]
  have h1 : ((t % 2) * 2 ^ 63 + 0x7ff0000000000000 + 1 + (t / 2) % (2 ^ 52 - 1)) % 9223372036854775808 = 0x7ff0000000000000 + 1 + (t / 2) % (2 ^ 52 - 1) := by omega
  rw [h1]
  unfold Fl.rdOf
  rw [if_neg (by omega), if_neg (by omega), if_neg (by omega)]; rfl

theorem run_nan (op : BinOp) (t : TypeId) (x y : Nat) (h : floatBits op .f64 x y = none) (ho : op = .add ∨ op = .sub ∨ op = .mul ∨ op = .quo) (w : World) :
    (binOp op t (.float .f64 x) (.float .f64 y)).run Try.prog w = .ok (.float .f64 (anyNaN w x y)) w.drew := by
  unfold floatBits at h
  rcases ho with rfl | rfl | rfl | rfl <;> simp only at h <;> simp [binOp, Op.floatArith, h, anyNaN, Question.forced]

set_option maxHeartbeats 400000 in
theorem binF_add (x y : Int) (w : World) :
    Calls Try.prog 42 #[.int .i64 1, .int .u64 x, .int .u64 y] w fun e w' => e = .returned (.int .u64 (Fl.ar 1 x y)) ∧ ∃ n, w' = w.drewN n := by
  have f1 := frombits
  cases hr : floatBits .add .f64 x.toNat y.toNat with
  | some r =>
    have Ha : Hid (Fl.ar 1 x y = r) := by show (match floatBits .add .f64 x.toNat y.toNat with | some r => (r : Int) | none => Fl.theNaN) = (r : Int); rw [hr]
    have Hn : Hid ((Ieee.double.read r).isNaN = false) := Fl.raw_ok (op := 1) (x := x) (y := y) hr
    have hrun := fun (w : World) (t : TypeId) => run_float_arith (P := Try.prog) w .add t .f64 x.toNat y.toNat r hr
    clear hr
    go_enter Try.func42, Try.ntmps42
    go_wp2_with (first | (go_at_call 52; go_in) | (go_at_call 56; refine (oneNaN_no _ _ Hn.out).mono ?_; rintro e w' ⟨rfl, rfl⟩))
    go_ret
    exact ⟨ret_u64 Ha.out.symm, 0, rfl⟩
  | none =>
    have Ha : Hid (Fl.ar 1 x y = Fl.theNaN) := by show (match floatBits .add .f64 x.toNat y.toNat with | some r => (r : Int) | none => Fl.theNaN) = _; rw [hr]
    have hrun := fun (w : World) (t : TypeId) => run_nan .add t x.toNat y.toNat hr (by simp) w
    clear hr
    go_enter Try.func42, Try.ntmps42
    go_wp2_with (first | (go_at_call 52; go_in) | (go_at_call 56; refine (oneNaN_yes _ _ (anyNaN_is _ _ _)).mono ?_; rintro e w' ⟨rfl, rfl⟩))
    go_ret
    exact ⟨ret_u64 Ha.out.symm, 1, rfl⟩
set_option maxHeartbeats 400000 in
theorem binF_sub (x y : Int) (w : World) :
    Calls Try.prog 42 #[.int .i64 2, .int .u64 x, .int .u64 y] w fun e w' => e = .returned (.int .u64 (Fl.ar 2 x y)) ∧ ∃ n, w' = w.drewN n := by
  have f1 := frombits
  cases hr : floatBits .sub .f64 x.toNat y.toNat with
  | some r =>
    have Ha : Hid (Fl.ar 2 x y = r) := by show (match floatBits .sub .f64 x.toNat y.toNat with | some r => (r : Int) | none => Fl.theNaN) = (r : Int); rw [hr]
    have Hn : Hid ((Ieee.double.read r).isNaN = false) := Fl.raw_ok (op := 2) (x := x) (y := y) hr
    have hrun := fun (w : World) (t : TypeId) => run_float_arith (P := Try.prog) w .sub t .f64 x.toNat y.toNat r hr
    clear hr
    go_enter Try.func42, Try.ntmps42
    go_wp2_with (first | (go_at_call 52; go_in) | (go_at_call 56; refine (oneNaN_no _ _ Hn.out).mono ?_; rintro e w' ⟨rfl, rfl⟩))
    go_ret
    exact ⟨ret_u64 Ha.out.symm, 0, rfl⟩
  | none =>
    have Ha : Hid (Fl.ar 2 x y = Fl.theNaN) := by show (match floatBits .sub .f64 x.toNat y.toNat with | some r => (r : Int) | none => Fl.theNaN) = _; rw [hr]
    have hrun := fun (w : World) (t : TypeId) => run_nan .sub t x.toNat y.toNat hr (by simp) w
    clear hr
    go_enter Try.func42, Try.ntmps42
    go_wp2_with (first | (go_at_call 52; go_in) | (go_at_call 56; refine (oneNaN_yes _ _ (anyNaN_is _ _ _)).mono ?_; rintro e w' ⟨rfl, rfl⟩))
    go_ret
    exact ⟨ret_u64 Ha.out.symm, 1, rfl⟩
set_option maxHeartbeats 400000 in
theorem binF_mul (x y : Int) (w : World) :
    Calls Try.prog 42 #[.int .i64 3, .int .u64 x, .int .u64 y] w fun e w' => e = .returned (.int .u64 (Fl.ar 3 x y)) ∧ ∃ n, w' = w.drewN n := by
  have f1 := frombits
  cases hr : floatBits .mul .f64 x.toNat y.toNat with
  | some r =>
    have Ha : Hid (Fl.ar 3 x y = r) := by show (match floatBits .mul .f64 x.toNat y.toNat with | some r => (r : Int) | none => Fl.theNaN) = (r : Int); rw [hr]
    have Hn : Hid ((Ieee.double.read r).isNaN = false) := Fl.raw_ok (op := 3) (x := x) (y := y) hr
    have hrun := fun (w : World) (t : TypeId) => run_float_arith (P := Try.prog) w .mul t .f64 x.toNat y.toNat r hr
    clear hr
    go_enter Try.func42, Try.ntmps42
    go_wp2_with (first | (go_at_call 52; go_in) | (go_at_call 56; refine (oneNaN_no _ _ Hn.out).mono ?_; rintro e w' ⟨rfl, rfl⟩))
    go_ret
    exact ⟨ret_u64 Ha.out.symm, 0, rfl⟩
  | none =>
    have Ha : Hid (Fl.ar 3 x y = Fl.theNaN) := by show (match floatBits .mul .f64 x.toNat y.toNat with | some r => (r : Int) | none => Fl.theNaN) = _; rw [hr]
    have hrun := fun (w : World) (t : TypeId) => run_nan .mul t x.toNat y.toNat hr (by simp) w
    clear hr
    go_enter Try.func42, Try.ntmps42
    go_wp2_with (first | (go_at_call 52; go_in) | (go_at_call 56; refine (oneNaN_yes _ _ (anyNaN_is _ _ _)).mono ?_; rintro e w' ⟨rfl, rfl⟩))
    go_ret
    exact ⟨ret_u64 Ha.out.symm, 1, rfl⟩
set_option maxHeartbeats 400000 in
theorem binF_quo (x y : Int) (w : World) :
    Calls Try.prog 42 #[.int .i64 4, .int .u64 x, .int .u64 y] w fun e w' => e = .returned (.int .u64 (Fl.ar 4 x y)) ∧ ∃ n, w' = w.drewN n := by
  have f1 := frombits
  cases hr : floatBits .quo .f64 x.toNat y.toNat with
  | some r =>
    have Ha : Hid (Fl.ar 4 x y = r) := by show (match floatBits .quo .f64 x.toNat y.toNat with | some r => (r : Int) | none => Fl.theNaN) = (r : Int); rw [hr]
    have Hn : Hid ((Ieee.double.read r).isNaN = false) := Fl.raw_ok (op := 4) (x := x) (y := y) hr
    have hrun := fun (w : World) (t : TypeId) => run_float_arith (P := Try.prog) w .quo t .f64 x.toNat y.toNat r hr
    clear hr
    go_enter Try.func42, Try.ntmps42
    go_wp2_with (first | (go_at_call 52; go_in) | (go_at_call 56; refine (oneNaN_no _ _ Hn.out).mono ?_; rintro e w' ⟨rfl, rfl⟩))
    go_ret
    exact ⟨ret_u64 Ha.out.symm, 0, rfl⟩
  | none =>
    have Ha : Hid (Fl.ar 4 x y = Fl.theNaN) := by show (match floatBits .quo .f64 x.toNat y.toNat with | some r => (r : Int) | none => Fl.theNaN) = _; rw [hr]
    have hrun := fun (w : World) (t : TypeId) => run_nan .quo t x.toNat y.toNat hr (by simp) w
    clear hr
    go_enter Try.func42, Try.ntmps42
    go_wp2_with (first | (go_at_call 52; go_in) | (go_at_call 56; refine (oneNaN_yes _ _ (anyNaN_is _ _ _)).mono ?_; rintro e w' ⟨rfl, rfl⟩))
    go_ret
    exact ⟨ret_u64 Ha.out.symm, 1, rfl⟩

set_option maxHeartbeats 400000 in
theorem binF_cmp (op x y : Int) (w : World) (hc : Wd.cmpB op = true) :
    Calls Try.prog 42 #[.int .i64 op, .int .u64 x, .int .u64 y] w fun e w' => e = .returned (.int .u64 (Fl.cmpF op x y)) ∧ w' = w := by
  have f1 := frombits
  go_enter Try.func42, Try.ntmps42
  go_wp2_with (first | (go_at_call 52; refine (compares_any _ _).mono ?_; rintro e w' ⟨rfl, rfl⟩) | (go_at_call 55; refine (compareF_any _ _ _ _).mono ?_; rintro e w' ⟨rfl, rfl⟩))
  go_ret
  exact ⟨rfl, rfl⟩

theorem binF_any (op x y : Int) (w : World) (hop : Wd.hasBinB op 10 = true) :
    Calls Try.prog 42 #[.int .i64 op, .int .u64 x, .int .u64 y] w fun e w' => e = .returned (.int .u64 (Fl.bf op x y)) ∧ ∃ n, w' = w.drewN n := by
  unfold Fl.bf
  cases hc : Wd.cmpB op
  · have ho : op = 1 ∨ op = 2 ∨ op = 3 ∨ op = 4 := by
      simp [Wd.hasBinB, Wd.intB, hc] at hop; omega
    rw [if_neg (by simp)]
    rcases ho with rfl | rfl | rfl | rfl
    · exact binF_add x y w
    · exact binF_sub x y w
    · exact binF_mul x y w
    · exact binF_quo x y w
  · rw [if_pos rfl]
    refine (binF_cmp op x y w hc).mono ?_
    rintro e w' ⟨rfl, rfl⟩
    exact ⟨rfl, 0, rfl⟩

end Go.Proofs.Ytkpmhgkljedapaa
