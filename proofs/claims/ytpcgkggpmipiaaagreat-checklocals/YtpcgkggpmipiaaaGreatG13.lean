/- Contracts and plain facts that the walks share. -/
import Derived.Test.YtpcgkggpmipiaaaGreatG12
import Derived.Test.YtpcgkggpmipiaaaGreatG10
namespace Go.Proofs.YtpcgkggpmipiaaaGreat
namespace Fl
open Ieee
set_option linter.unusedVariables false
def cLo : Nat := 14114281232179134464
def cHi : Nat := 4890909195324358656
theorem rd_lo : double.read cLo = .number true 4503599627370496 11 := by decide +kernel
theorem rd_hi : double.read cHi = .number false 4503599627370496 11 := by decide +kernel
def loB (x : Int) : Bool := ordN x.toNat cLo == some .gt || ordN x.toNat cLo == some .eq
def hiB (x : Int) : Bool := ordN x.toNat cHi == some .lt
def toI (x : Int) : Int := match (double.read x.toNat).toInt .zero with | some n => n | none => 0
def trunc (x : Int) : Int := if loB x && hiB x then toI x % 18446744073709551616 else 9223372036854775808
theorem cmp_lt {a b : Int} (h : compare a b = Ordering.lt) : a < b := by
 simp only [compare, compareOfLessAndEq] at h
 by_cases g : a < b
 ·exact g
 ·rw [if_neg g] at h; split at h <;> cases h
theorem cmp_ge {a b : Int} (h : compare a b = Ordering.gt ∨ compare a b = Ordering.eq) : b ≤ a := by
 simp only [compare, compareOfLessAndEq] at h
 by_cases g : a < b
 ·rw [if_pos g] at h; rcases h with h | h <;> cases h
 ·omega
theorem cut_zero (s : Bool) (n d : Nat) : Toward.zero.cut s n d = n / 2 ^ min d (n.log2 + 2) := by
 unfold Toward.cut
 simp only [Nat.one_shiftLeft]
 rfl
theorem cut_le (s : Bool) (n d : Nat) : Toward.zero.cut s n d ≤ n / 2 ^ d := by
 rw [cut_zero]
 by_cases h : d ≤ n.log2 + 2
 ·rw [Nat.min_eq_left h]; exact Nat.le_refl _
 ·rw [Nat.min_eq_right (by omega)]
  have p : n < 2 ^ (n.log2 + 2) := Nat.lt_of_lt_of_le Nat.lt_log2_self (Nat.pow_le_pow_right (by omega) (by omega))
  rw [Nat.div_eq_of_lt p]; exact Nat.zero_le _
theorem cut_bound (s : Bool) (m : Nat) (i : Int) (C : Nat) (h : m * 2 ^ (i - min i 11).toNat ≤ C * 2 ^ (11 - min i 11).toNat) : Toward.zero.cut s (m <<< i.toNat) (-i).toNat ≤ C * 2 ^ 11 := by
 rw [Nat.shiftLeft_eq]
 by_cases hi : 0 ≤ i
 ·rw [show (-i).toNat = 0 by omega]
  refine Nat.le_trans (cut_le s _ 0) ?_
  rw [Nat.pow_zero, Nat.div_one]
  by_cases h11 : i ≤ 11
  ·rw [show min i 11 = i by omega, show (i - i).toNat = 0 by omega, Nat.pow_zero, Nat.mul_one] at h
   have := Nat.mul_le_mul_right (2 ^ i.toNat) h
   rw [Nat.mul_assoc, ← Nat.pow_add, show (11 - i).toNat + i.toNat = 11 by omega] at this
   exact this
  ·rw [show min i 11 = 11 by omega, show ((11 : Int) - 11).toNat = 0 by omega, Nat.pow_zero, Nat.mul_one] at h
   have := Nat.mul_le_mul_right (2 ^ 11) h
   rw [Nat.mul_assoc, ← Nat.pow_add, show (i - 11).toNat + 11 = i.toNat by omega] at this
   exact this
 ·rw [show i.toNat = 0 by omega, Nat.pow_zero, Nat.mul_one]
  refine Nat.le_trans (cut_le s _ _) ?_
  rw [show min i 11 = i by omega, show (i - i).toNat = 0 by omega, Nat.pow_zero, Nat.mul_one, show (11 - i).toNat = 11 + (-i).toNat by omega, Nat.pow_add, ← Nat.mul_assoc] at h
  exact Nat.div_le_of_le_mul (by rw [Nat.mul_comm]; exact h)
theorem cut_bound_lt (s : Bool) (m : Nat) (i : Int) (C : Nat) (h : m * 2 ^ (i - min i 11).toNat < C * 2 ^ (11 - min i 11).toNat) : Toward.zero.cut s (m <<< i.toNat) (-i).toNat < C * 2 ^ 11 := by
 rw [Nat.shiftLeft_eq]
 by_cases hi : 0 ≤ i
 ·rw [show (-i).toNat = 0 by omega]
  refine Nat.lt_of_le_of_lt (cut_le s _ 0) ?_
  rw [Nat.pow_zero, Nat.div_one]
  by_cases h11 : i ≤ 11
  ·rw [show min i 11 = i by omega, show (i - i).toNat = 0 by omega, Nat.pow_zero, Nat.mul_one] at h
   have := Nat.mul_lt_mul_of_pos_right h (Nat.two_pow_pos i.toNat)
   rw [Nat.mul_assoc, ← Nat.pow_add, show (11 - i).toNat + i.toNat = 11 by omega] at this
   exact this
  ·rw [show min i 11 = 11 by omega, show ((11 : Int) - 11).toNat = 0 by omega, Nat.pow_zero, Nat.mul_one] at h
   have := Nat.mul_lt_mul_of_pos_right h (Nat.two_pow_pos 11)
   rw [Nat.mul_assoc, ← Nat.pow_add, show (i - 11).toNat + 11 = i.toNat by omega] at this
   exact this
 ·rw [show i.toNat = 0 by omega, Nat.pow_zero, Nat.mul_one]
  refine Nat.lt_of_le_of_lt (cut_le s _ _) ?_
  rw [show min i 11 = i by omega, show (i - i).toNat = 0 by omega, Nat.pow_zero, Nat.mul_one, show (11 - i).toNat = 11 + (-i).toNat by omega, Nat.pow_add, ← Nat.mul_assoc] at h
  exact Nat.div_lt_of_lt_mul (by rw [Nat.mul_comm]; exact h)
theorem toI_in {x : Int} (h1 : loB x = true) (h2 : hiB x = true) : (double.read x.toNat).toInt .zero = some (toI x) ∧ -9223372036854775808 ≤ toI x ∧ toI x ≤ 9223372036854775807 := by
 have lo : Datum.order (double.read x.toNat) (double.read cLo) = some .gt ∨ Datum.order (double.read x.toNat) (double.read cLo) = some .eq := by
  simpa [loB, ordN, Format.order] using h1
 have hi : Datum.order (double.read x.toNat) (double.read cHi) = some .lt := by
  simpa [hiB, ordN, Format.order] using h2
 unfold toI
 rw [rd_lo] at lo
 rw [rd_hi] at hi
 cases hd : double.read x.toNat with
 | nan s t => rw [hd] at hi; cases hi
 | infinity s =>
  rw [hd] at hi lo
  cases s
  ·simp [Datum.order] at hi
  ·simp [Datum.order] at lo
 | number s m i =>
  rw [hd] at hi lo
  have hz : (Datum.number s m i).toInt .zero = some (signed s (Toward.zero.cut s (m <<< i.toNat) (-i).toNat) 0) := rfl
  rw [hz]
  refine ⟨rfl, ?_⟩
  show -9223372036854775808 ≤ signed s _ 0 ∧ signed s _ 0 ≤ 9223372036854775807
  simp only [Datum.order, Option.some.injEq] at hi lo
  have hi' := cmp_lt hi
  have lo' := cmp_ge lo
  clear hi lo hz hd h1 h2
  unfold signed at *
  simp only [Nat.shiftLeft_eq, Nat.pow_zero, Nat.mul_one] at *
  cases s
  ·simp only [Bool.false_eq_true, if_false] at *
   have := cut_bound_lt false m i 4503599627370496 (by omega)
   rw [Nat.shiftLeft_eq] at this
   omega
  ·simp only [if_true] at *
   have := cut_bound true m i 4503599627370496 (by omega)
   rw [Nat.shiftLeft_eq] at this
   omega
end Fl
end Go.Proofs.YtpcgkggpmipiaaaGreat
namespace Go.Proofs.YtpcgkggpmipiaaaGreat
set_option maxRecDepth 100000
set_option maxHeartbeats 32000000
open Go.RowKit
set_option linter.unusedVariables false
namespace Fl
def nr (k x : Int) : Int := (floatOfInt .f64 (if Wd.sgnB k then Wd.sg x else x) : Nat)
def convA (k t x : Int) : Int × Int :=
  if (Wd.numB k && Wd.numB t) = false then (0, 10) else if Wd.isB k x = false then (0, 11) else if k = 10 ∧ t = 10 then (x, 0)
  else if k = 10 then (Wd.canon t (trunc x), 0) else if t = 10 then (nr k x, 0) else (Wd.canon t x, 0)
end Fl
theorem conv_in {x : Int} (h1 : Fl.loB x = true) (h2 : Fl.hiB x = true) (w : World) : (convert 203 2 (.float .f64 x.toNat)).run Tryz.prog w = .ok (.int .i64 (Fl.toI x)) w := by
  obtain ⟨a, b, c⟩ := Fl.toI_in h1 h2
  refine run_convert_float_int w 203 2 .f64 .i64 x.toNat (Fl.toI x) (by rw [Tryz.underlying203]; rfl) Tryz.underlying2 ?_
  unfold floatToIntVal
  have e : (FloatKind.decode .f64 x.toNat).toInt .zero = some (Fl.toI x) := a
  rw [e]
  have d : IntKind.i64.min ≤ Fl.toI x ∧ Fl.toI x ≤ IntKind.i64.max := ⟨b, c⟩
  simp only [if_pos d]
theorem truncate_any (x : Int) (w : World) :
    Calls Tryz.prog 206 #[.int .u64 x] w fun e w' => e = .returned (.int .u64 (Fl.trunc x)) ∧ w' = w := by
  have f1 := frombits
  have Hc : Hid (∀ (h1 : Fl.loB x = true) (h2 : Fl.hiB x = true) (w : World), (convert 203 2 (.float .f64 x.toNat)).run Tryz.prog w = .ok (.int .i64 (Fl.toI x)) w) := fun h1 h2 w => conv_in h1 h2 w
  have Hl : Hid (Fl.loB x = (FloatKind.f64.format.order x.toNat 14114281232179134464 == some .gt || FloatKind.f64.format.order x.toNat 14114281232179134464 == some .eq)) := rfl
  have Hh : Hid (Fl.hiB x = (FloatKind.f64.format.order x.toNat 4890909195324358656 == some .lt)) := rfl
  cases o1 : FloatKind.f64.format.order x.toNat 14114281232179134464 with
  | none =>
    have Ht : Hid (Fl.trunc x = 9223372036854775808) := by show _ = _; unfold Fl.trunc; rw [Hl.out, o1]; rfl
    go_enter Tryz.func206, Tryz.ntmps206
    go_wp2
    go_ret
    exact ⟨ret_u64 Ht.out.symm, rfl⟩
  | some p =>
    cases o2 : FloatKind.f64.format.order x.toNat 4890909195324358656 with
    | none =>
      have Ht : Hid (Fl.trunc x = 9223372036854775808) := by show _ = _; unfold Fl.trunc; rw [Hl.out, Hh.out, o1, o2]; cases p <;> rfl
      cases p
      all_goals
        go_enter Tryz.func206, Tryz.ntmps206
        go_wp2
        go_ret
        exact ⟨ret_u64 Ht.out.symm, rfl⟩
    | some q =>
      cases p <;> cases q
      all_goals first
        | (have h1 : Fl.loB x = true := by rw [Hl.out, o1]; rfl
           have h2 : Fl.hiB x = true := by rw [Hh.out, o2]; rfl
           have Ht : Hid (Fl.trunc x = Fl.toI x % 18446744073709551616) := by show _ = _; unfold Fl.trunc; rw [h1, h2]; rfl
           have hc := Hc.out h1 h2
           clear h1 h2
           go_enter Tryz.func206, Tryz.ntmps206
           go_wp2
           go_ret
           exact ⟨ret_u64 (by rw [Ht.out, IntKind.wrap_u64]), rfl⟩)
        | (have Ht : Hid (Fl.trunc x = 9223372036854775808) := by show _ = _; unfold Fl.trunc; rw [Hl.out, Hh.out, o1, o2]; rfl
           go_enter Tryz.func206, Tryz.ntmps206
           go_wp2
           go_ret
           exact ⟨ret_u64 Ht.out.symm, rfl⟩)
theorem trunc_rng (x : Int) : 0 ≤ Fl.trunc x ∧ Fl.trunc x < 18446744073709551616 := by unfold Fl.trunc; split <;> omega
theorem nearest_any (k x : Int) (w : World) (hx : 0 ≤ x) (hx2 : x < 18446744073709551616) :
    Calls Tryz.prog 207 #[.int .i64 k, .int .u64 x] w fun e w' => e = .returned (.int .u64 (Fl.nr k x)) ∧ w' = w := by
  have f2 := tobits
  cases hs : Wd.sgnB k
  · have Hn : Hid (Fl.nr k x = (floatOfInt .f64 x : Nat)) := by show _ = _; unfold Fl.nr; rw [hs]; rfl
    go_enter Tryz.func207, Tryz.ntmps207
    go_wp2_with (go_at_call 221; refine (signed_any _ _).mono ?_; rintro e w' ⟨rfl, rfl⟩)
    go_ret
    exact ⟨ret_u64 Hn.out.symm, rfl⟩
  · have Hn : Hid (Fl.nr k x = (floatOfInt .f64 (wrap64 x) : Nat)) := by show _ = _; unfold Fl.nr; rw [hs, sg_wrap]; rfl
    go_enter Tryz.func207, Tryz.ntmps207
    go_wp2_with (go_at_call 221; refine (signed_any _ _).mono ?_; rintro e w' ⟨rfl, rfl⟩)
    go_ret
    exact ⟨ret_u64 Hn.out.symm, rfl⟩
theorem conv_kind (k t x : Int) (w : World) (h : (Wd.numB k && Wd.numB t) = false) :
    Calls Tryz.prog 166 #[.int .i64 k, .int .i64 t, .int .u64 x] w fun e w' => e = .returned (.tuple #[.int .u64 0, .int .i64 10]) ∧ w' = w := by
  have h' : Wd.numB k = false ∨ Wd.numB k = true ∧ Wd.numB t = false := by revert h; cases Wd.numB k <;> cases Wd.numB t <;> simp
  clear h
  rcases h' with h | ⟨h, g⟩
  all_goals
    go_enter Tryz.func166, Tryz.ntmps166
    go_wp2_with (go_at_call 205; refine (number_any _ _).mono ?_; rintro e w' ⟨rfl, rfl⟩)
    go_ret2
    exact ⟨rfl, rfl⟩
theorem conv_form (k t x : Int) (w : World) (hx : 0 ≤ x) (hx2 : x < 18446744073709551616) (h : Wd.numB k = true) (g : Wd.numB t = true) (hi : Wd.isB k x = false) :
    Calls Tryz.prog 166 #[.int .i64 k, .int .i64 t, .int .u64 x] w fun e w' => e = .returned (.tuple #[.int .u64 0, .int .i64 11]) ∧ w' = w := by
  go_enter Tryz.func166, Tryz.ntmps166
  go_wp2_with (first | (go_at_call 205; refine (number_any _ _).mono ?_; rintro e w' ⟨rfl, rfl⟩) | (go_at_call 159; refine (is_any _ _ _ (by assumption) (by assumption)).mono ?_; rintro e w' ⟨rfl, rfl⟩))
  go_ret2
  exact ⟨rfl, rfl⟩
theorem conv_ok (k t x : Int) (w : World) (hx : 0 ≤ x) (hx2 : x < 18446744073709551616) (h : Wd.numB k = true) (g : Wd.numB t = true) (hi : Wd.isB k x = true) :
    Calls Tryz.prog 166 #[.int .i64 k, .int .i64 t, .int .u64 x] w fun e w' => e = .returned (.tuple #[.int .u64 (if k = 10 ∧ t = 10 then x else if k = 10 then Wd.canon t (Fl.trunc x) else if t = 10 then Fl.nr k x else Wd.canon t x), .int .i64 0]) ∧ w' = w := by
  have tr1 := (trunc_rng x).1
  have tr2 := (trunc_rng x).2
  by_cases hk : k = 10
  · by_cases ht : t = 10
    · subst hk ht
      rw [if_pos ⟨rfl, rfl⟩]
      go_enter Tryz.func166, Tryz.ntmps166
      go_wp2_with (first | (go_at_call 205; refine (number_any _ _).mono ?_; rintro e w' ⟨rfl, rfl⟩) | (go_at_call 159; refine (is_any _ _ _ (by assumption) (by assumption)).mono ?_; rintro e w' ⟨rfl, rfl⟩))
      go_ret2
      exact ⟨rfl, rfl⟩
    · subst hk
      rw [if_neg (fun h => ht h.2), if_pos rfl]
      have ht' : (t == 10) = false := by simpa using ht
      clear ht
      go_enter Tryz.func166, Tryz.ntmps166
      go_wp2_with (first | (go_at_call 205; refine (number_any _ _).mono ?_; rintro e w' ⟨rfl, rfl⟩) | (go_at_call 159; refine (is_any _ _ _ (by assumption) (by assumption)).mono ?_; rintro e w' ⟨rfl, rfl⟩) | (go_at_call 206; refine (truncate_any _ _).mono ?_; rintro e w' ⟨rfl, rfl⟩) | (go_at_call 202; refine (canon_any _ _ _ (by assumption) (by assumption)).mono ?_; rintro e w' ⟨rfl, rfl⟩))
      go_ret2
      exact ⟨rfl, rfl⟩
  · rw [if_neg (fun h => hk h.1), if_neg hk]
    have hk' : (k == 10) = false := by simpa using hk
    clear hk
    by_cases ht : t = 10
    · subst ht
      rw [if_pos rfl]
      go_enter Tryz.func166, Tryz.ntmps166
      go_wp2_with (first | (go_at_call 205; refine (number_any _ _).mono ?_; rintro e w' ⟨rfl, rfl⟩) | (go_at_call 159; refine (is_any _ _ _ (by assumption) (by assumption)).mono ?_; rintro e w' ⟨rfl, rfl⟩) | (go_at_call 207; refine (nearest_any _ _ _ (by assumption) (by assumption)).mono ?_; rintro e w' ⟨rfl, rfl⟩))
      go_ret2
      exact ⟨rfl, rfl⟩
    · rw [if_neg ht]
      have ht' : (t == 10) = false := by simpa using ht
      clear ht
      go_enter Tryz.func166, Tryz.ntmps166
      go_wp2_with (first | (go_at_call 205; refine (number_any _ _).mono ?_; rintro e w' ⟨rfl, rfl⟩) | (go_at_call 159; refine (is_any _ _ _ (by assumption) (by assumption)).mono ?_; rintro e w' ⟨rfl, rfl⟩) | (go_at_call 202; refine (canon_any _ _ _ (by assumption) (by assumption)).mono ?_; rintro e w' ⟨rfl, rfl⟩))
      go_ret2
      exact ⟨rfl, rfl⟩
theorem conv_any (k t x : Int) (w : World) (hx : 0 ≤ x) (hx2 : x < 18446744073709551616) :
    Calls Tryz.prog 166 #[.int .i64 k, .int .i64 t, .int .u64 x] w fun e w' => e = .returned (.tuple #[.int .u64 (Fl.convA k t x).1, .int .i64 (Fl.convA k t x).2]) ∧ w' = w := by
  cases hn : (Wd.numB k && Wd.numB t)
  · have e : Fl.convA k t x = (0, 10) := by unfold Fl.convA; rw [if_pos hn]
    rw [e]; exact conv_kind k t x w hn
  · obtain ⟨h, g⟩ : Wd.numB k = true ∧ Wd.numB t = true := by simpa using hn
    cases hi : Wd.isB k x
    · have e : Fl.convA k t x = (0, 11) := by unfold Fl.convA; rw [if_neg (by simp [hn]), if_pos hi]
      rw [e]; exact conv_form k t x w hx hx2 h g hi
    · have e : Fl.convA k t x = (if k = 10 ∧ t = 10 then x else if k = 10 then Wd.canon t (Fl.trunc x) else if t = 10 then Fl.nr k x else Wd.canon t x, 0) := by
        unfold Fl.convA; rw [if_neg (by simp [hn]), if_neg (by simp [hi])]
        repeat' split
        all_goals rfl
      rw [e]; exact conv_ok k t x w hx hx2 h g hi
theorem Fl.binA_10 (op k : Int) : ((Fl.binA op k 0 0).2 != 10) = Wd.hasBinB op k := by
 unfold Fl.binA
 by_cases hk : k = 10
 ·subst hk
  rw [if_pos rfl]
  unfold Fl.binF
  cases Wd.hasBinB op 10 <;> simp
 ·rw [if_neg hk]
  unfold Wd.binI
  cases Wd.hasBinB op k
  ·simp
  ·repeat' split
   all_goals simp_all
theorem Wd.unI_10 (op k : Int) : ((Wd.unI op k 0).2 != 10) = Wd.hasUnB op k := by
 unfold Wd.unI
 cases Wd.hasUnB op k
 ·simp
 ·repeat' split
  all_goals simp_all
theorem Fl.convA_10 (k t : Int) : ((Fl.convA k t 0).2 != 10) = (Wd.numB k && Wd.numB t) := by
 unfold Fl.convA
 cases (Wd.numB k && Wd.numB t)
 ·simp
 ·repeat' split
  all_goals simp_all
theorem ckHasBin_any {N : Nat} {w : World} {SB : Nat} {c : Ck.En} {A : ScA} {loops nodes deep : Int} (h : Sc N w SB c A loops nodes deep) {i : Nat} (hi : i < c.n) (op : Int) :
  Calls Tryz.prog 204 #[.pointer (some ⟨SB, 0, none⟩), .int .i64 (i : Int), .int .i64 op] w fun r w' => r = .returned (.bool (Wd.hasBinB op (c.T i).kind)) ∧ w.grownBy w' none := by
 have HK : Hid (Calls Tryz.prog 93 #[.agg #[.slice A.ea c.n A.ec, .slice A.va c.n A.vc], .int .i64 (i : Int)] w fun r w' => r = .returned (.int .i64 (c.T i).kind) ∧ w.grownBy w' none) := ckKind_any h.tb hi
 have k0 : w.cell? ⟨SB, 0, none⟩ = some (.slice A.ea c.n A.ec) := h.k.cell (i := 0) rfl
 have k1 : w.cell? ⟨SB, 1, none⟩ = some (.slice A.va c.n A.vc) := h.k.cell (i := 1) rfl
 clear h
 rw [← Fl.binA_10]
 generalize (c.T i).kind = k at *
 have HB : Hid (∀ W, Calls Tryz.prog 224 #[.int .i64 op, .int .i64 k, .int .u64 0, .int .u64 0] W fun e w' => e = .returned (.tuple #[.int .u64 (Fl.binA op k 0 0).1, .int .i64 (Fl.binA op k 0 0).2]) ∧ W.grownBy w' none) := fun W => (binA_any op k 0 0 W (by omega) (by omega) (by omega) (by omega)).mono fun e w' ⟨he, m, hw⟩ => ⟨he, by rw [hw]; exact grown_drewN (World.grownBy.refl _ none) _⟩
 generalize Fl.binA op k 0 0 = q at *
 obtain ⟨qa, qb⟩ := q
 go_enter Tryz.func204, Tryz.ntmps204
 go_wp2_with (first
  | (go_at_call 93; refine HK.out.mono ?_; rintro e w3 ⟨rfl, hg3⟩; have HG3 : Hid (w.grownBy w3 none) := hg3; clear hg3)
  | (go_at_call 224; refine (HB.out _).mono ?_; rintro e w4 ⟨rfl, hg4⟩; have HG4 : Hid (w.grownBy w4 none) := grown_trans HG3.out hg4; clear hg4))
 go_ret
 exact ⟨by first | rfl | simp, HG4.out⟩
end Go.Proofs.YtpcgkggpmipiaaaGreat
