/- Bin, and the laws' bin, at every kind: contracts. -/
import Derived.Test.YtkpmhgkljedapaaFWalk
import Derived.Test.YtkpmhgkljedapaaRing
namespace Go.Proofs.Ytkpmhgkljedapaa
open Go.RowKit
set_option linter.unusedVariables false

namespace Fl
def binF (op x y : Int) : Int × Int := if Wd.hasBinB op 10 then (bf op x y, 0) else (0, 10)
/-- Bin: the word and the error -/
def binA (op k x y : Int) : Int × Int := if k = 10 then binF op x y else Wd.binI op k x y
end Fl

theorem is10 {x : Int} (h1 : 0 ≤ x) (h2 : x < 18446744073709551616) : Wd.isB 10 x = true := Wd.is_word (by omega) (by omega) (by rw [Wd.canon10]; omega)

set_option maxHeartbeats 1000000 in
theorem binF_ok (op x y : Int) (w : World) (hx : 0 ≤ x) (hx2 : x < 18446744073709551616) (hy : 0 ≤ y) (hy2 : y < 18446744073709551616) (hh : Wd.hasBinB op 10 = true) :
    Calls Try.prog 36 #[.int .i64 op, .int .i64 10, .int .u64 x, .int .u64 y] w fun e w' => e = .returned (.tuple #[.int .u64 (Fl.bf op x y), .int .i64 0]) ∧ ∃ n, w' = w.drewN n := by
  have i1 := is10 hx hx2
  have i2 := is10 hy hy2
  have o9 : (op == 9) = false := by rw [beq_eq_false_iff_ne]; rintro rfl; simp [Wd.hasBinB, Wd.intB, Wd.cmpB] at hh
  have o10 : (op == 10) = false := by rw [beq_eq_false_iff_ne]; rintro rfl; simp [Wd.hasBinB, Wd.intB, Wd.cmpB] at hh
  go_enter Try.func36, Try.ntmps36
  go_wp2_with (first | (go_at_call 40; refine (hasBin_any _ _ _).mono ?_; rintro e w' ⟨rfl, rfl⟩) | (go_at_call 41; refine (is_any _ _ _ (by assumption) (by assumption)).mono ?_; rintro e w' ⟨rfl, rfl⟩) | (go_at_call 42; refine (binF_any _ _ _ _ (by assumption)).mono ?_; rintro e w' ⟨rfl, n, rfl⟩))
  go_ret2
  exact ⟨rfl, _, rfl⟩

theorem binA_any (op k x y : Int) (w : World) (hx : 0 ≤ x) (hx2 : x < 18446744073709551616) (hy : 0 ≤ y) (hy2 : y < 18446744073709551616) :
    Calls Try.prog 36 #[.int .i64 op, .int .i64 k, .int .u64 x, .int .u64 y] w fun e w' => e = .returned (.tuple #[.int .u64 (Fl.binA op k x y).1, .int .i64 (Fl.binA op k x y).2]) ∧ ∃ n, w' = w.drewN n := by
  by_cases hk : k = 10
  · subst hk
    rw [show Fl.binA op 10 x y = Fl.binF op x y from rfl]
    unfold Fl.binF
    cases hh : Wd.hasBinB op 10
    · rw [if_neg (by simp)]
      refine (binI_kind op 10 x y w hh).mono ?_
      rintro e w' ⟨rfl, rfl⟩
      exact ⟨rfl, 0, rfl⟩
    · rw [if_pos rfl]
      exact binF_ok op x y w hx hx2 hy hy2 hh
  · rw [show Fl.binA op k x y = Wd.binI op k x y from if_neg hk]
    refine (binI_any op k x y w hx hx2 hy hy2 hk).mono ?_
    rintro e w' ⟨rfl, rfl⟩
    exact ⟨rfl, 0, rfl⟩

namespace Fl
def bv (op x y : Int) : Int := (binF op x y).1
theorem ar_rng (op x y : Int) : 0 ≤ ar op x y ∧ ar op x y < 18446744073709551616 := by
  unfold ar
  cases h : raw op x y with
  | none => exact ⟨by decide, by decide⟩
  | some r =>
    have : r < 2 ^ Ieee.double.width := by
      unfold raw at h
      repeat' split at h
      all_goals first | exact Ieee.Format.add_lt _ h | exact Ieee.Format.sub_lt _ h | exact Ieee.Format.mul_lt _ h | exact Ieee.Format.div_lt _ h
    have e : 2 ^ Ieee.double.width = 18446744073709551616 := by decide +kernel
    rw [e] at this
    show 0 ≤ (r : Int) ∧ (r : Int) < _
    omega
theorem tr01 (b : Bool) : 0 ≤ Wd.tr b ∧ Wd.tr b ≤ 1 := by cases b <;> decide
theorem cmp01 (op x y : Int) : 0 ≤ cmpF op x y ∧ cmpF op x y ≤ 1 := by
  unfold cmpF cmpN
  repeat' split
  all_goals first | exact tr01 _ | omega
theorem bv_rng {op x y : Int} : 0 ≤ bv op x y ∧ bv op x y < 18446744073709551616 := by
  unfold bv binF bf
  have a := ar_rng op x y
  have c := cmp01 op x y
  repeat' split
  all_goals first | exact a | (show 0 ≤ cmpF op x y ∧ _; omega) | (show (0 : Int) ≤ 0 ∧ _; omega)
end Fl

end Go.Proofs.Ytkpmhgkljedapaa
