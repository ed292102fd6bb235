/- Bin of kinds that are no floats: its contract. -/
import Derived.Test.YtkpmhgkljedapaaBins
namespace Go.Proofs.Ytkpmhgkljedapaa
open Go.RowKit
set_option linter.unusedVariables false

theorem ret_bin {a b c d : Int} (h : (c, d) = (a, b)) : Ending.returned (.tuple #[.int .u64 a, .int .i64 b]) = .returned (.tuple #[.int .u64 c, .int .i64 d]) := by cases h; rfl

theorem opcases (op : Int) : op = 9 ∨ op = 10 ∨ op = 4 ∨ op = 5 ∨ ((op == 9) = false ∧ (op == 10) = false ∧ (op == 4) = false ∧ (op == 5) = false) := by
  simp only [beq_eq_false_iff_ne]; omega

set_option maxHeartbeats 1000000 in
theorem binI_kind (op k x y : Int) (w : World) (hh : Wd.hasBinB op k = false) :
    Calls Try.prog 36 #[.int .i64 op, .int .i64 k, .int .u64 x, .int .u64 y] w fun e w' => e = .returned (.tuple #[.int .u64 0, .int .i64 10]) ∧ w' = w := by
  go_enter Try.func36, Try.ntmps36
  go_wp2_with (go_at_call 40; refine (hasBin_any _ _ _).mono ?_; rintro e w' ⟨rfl, rfl⟩)
  go_ret2
  exact ⟨rfl, rfl⟩

set_option maxHeartbeats 2000000 in
theorem binI_form (op k x y : Int) (w : World) (hx : 0 ≤ x) (hx2 : x < 18446744073709551616) (hy : 0 ≤ y) (hy2 : y < 18446744073709551616)
    (hh : Wd.hasBinB op k = true) (hf : Wd.isB k x = false ∨ Wd.isB (if Wd.shB op then 9 else k) y = false) :
    Calls Try.prog 36 #[.int .i64 op, .int .i64 k, .int .u64 x, .int .u64 y] w fun e w' => e = .returned (.tuple #[.int .u64 0, .int .i64 11]) ∧ w' = w := by
  cases hix : Wd.isB k x
  · clear hf
    rcases opcases op with h | h | h | h | ⟨h9, h10, h4, h5⟩
    all_goals
      first | subst h | skip
      go_enter Try.func36, Try.ntmps36
      go_wp2_with (first | (go_at_call 40; refine (hasBin_any _ _ _).mono ?_; rintro e w' ⟨rfl, rfl⟩) | (go_at_call 41; refine (is_any _ _ _ (by assumption) (by assumption)).mono ?_; rintro e w' ⟨rfl, rfl⟩))
      go_ret2
      exact ⟨rfl, rfl⟩
  · have Hf : Hid (Wd.isB (if Wd.shB op then 9 else k) y = false) := by rcases hf with h | h; { rw [hix] at h; cases h }; exact h
    clear hf
    rcases opcases op with h | h | h | h | ⟨h9, h10, h4, h5⟩
    all_goals
      first | subst h | skip
      first
        | have hf : Wd.isB 9 y = false := Hf.out
        | have hf : Wd.isB k y = false := Hf.out
        | have hf : Wd.isB k y = false := by have := Hf.out; unfold Wd.shB at this; rw [h9, h10] at this; exact this
      clear Hf
      go_enter Try.func36, Try.ntmps36
      go_wp2_with (first | (go_at_call 40; refine (hasBin_any _ _ _).mono ?_; rintro e w' ⟨rfl, rfl⟩) | (go_at_call 41; refine (is_any _ _ _ (by assumption) (by assumption)).mono ?_; rintro e w' ⟨rfl, rfl⟩))
      go_ret2
      exact ⟨rfl, rfl⟩

set_option maxHeartbeats 2000000 in
theorem binI_zero (op k x : Int) (w : World) (hx : 0 ≤ x) (hx2 : x < 18446744073709551616) (ho : op = 4 ∨ op = 5) (hk : (k == 10) = false)
    (hh : Wd.hasBinB op k = true) (hix : Wd.isB k x = true) (hiy : Wd.isB k 0 = true) :
    Calls Try.prog 36 #[.int .i64 op, .int .i64 k, .int .u64 x, .int .u64 0] w fun e w' => e = .returned (.tuple #[.int .u64 0, .int .i64 12]) ∧ w' = w := by
  rcases ho with h | h
  all_goals
    subst h
    go_enter Try.func36, Try.ntmps36
    go_wp2_with (first | (go_at_call 40; refine (hasBin_any _ _ _).mono ?_; rintro e w' ⟨rfl, rfl⟩) | (go_at_call 41; refine (is_any _ _ _ (by first | assumption | decide) (by first | assumption | decide)).mono ?_; rintro e w' ⟨rfl, rfl⟩))
    go_ret2
    exact ⟨rfl, rfl⟩

set_option maxHeartbeats 2000000 in
theorem binI_ok (op k x y : Int) (w : World) (hx : 0 ≤ x) (hx2 : x < 18446744073709551616) (hy : 0 ≤ y) (hy2 : y < 18446744073709551616) (hk : (k == 10) = false)
    (hh : Wd.hasBinB op k = true) (hix : Wd.isB k x = true) (hf : Wd.isB (if Wd.shB op then 9 else k) y = true) (hz : op = 4 ∨ op = 5 → 0 < y) :
    Calls Try.prog 36 #[.int .i64 op, .int .i64 k, .int .u64 x, .int .u64 y] w fun e w' => e = .returned (.tuple #[.int .u64 (if Wd.sgnB k then Wd.bs op k x y else Wd.bu op k x y), .int .i64 0]) ∧ w' = w := by
  have Hz : Hid (op = 4 ∨ op = 5 → 0 < y) := hz
  obtain ⟨ho1, ho2⟩ := Wd.hasBin_ops hh
  have hfc : (op = 9 ∨ op = 10) ∧ Wd.isB 9 y = true ∨ ((op == 9) = false ∧ (op == 10) = false) ∧ Wd.isB k y = true := by
    by_cases h : op = 9 ∨ op = 10
    · left; refine ⟨h, ?_⟩; have e : Wd.shB op = true := by rcases h with rfl | rfl <;> rfl
      rw [e] at hf; exact hf
    · right; have e : (op == 9) = false ∧ (op == 10) = false := by simp only [beq_eq_false_iff_ne]; omega
      refine ⟨e, ?_⟩; unfold Wd.shB at hf; rw [e.1, e.2] at hf; exact hf
  clear hf
  have hyc : y = 0 ∧ (op == 4) = false ∧ (op == 5) = false ∨ (y == 0) = false := by
    by_cases h : y = 0
    · left; refine ⟨h, ?_⟩; simp only [beq_eq_false_iff_ne]; constructor <;> (intro e; have := hz (by omega); omega)
    · right; simpa using h
  clear hz
  cases hs : Wd.sgnB k
  all_goals
    rcases hyc with ⟨rfl, h4, h5⟩ | hyc
    all_goals
      rcases hfc with ⟨rfl | rfl, hf⟩ | ⟨⟨h9, h10⟩, hf⟩
      all_goals
        go_enter Try.func36, Try.ntmps36
        go_wp2_with (first | (go_at_call 40; refine (hasBin_any _ _ _).mono ?_; rintro e w' ⟨rfl, rfl⟩) | (go_at_call 41; refine (is_any _ _ _ (by first | assumption | decide) (by first | assumption | decide)).mono ?_; rintro e w' ⟨rfl, rfl⟩) | (go_at_call 43; refine (signed_any _ _).mono ?_; rintro e w' ⟨rfl, rfl⟩) | (go_at_call 44; refine (binS_any _ _ _ _ _ (by assumption) (by assumption) (by first | assumption | decide) (by first | assumption | decide) (by first | assumption | decide) (by first | assumption | decide) Hz.out).mono ?_; rintro e w' ⟨rfl, rfl⟩) | (go_at_call 45; refine (binU_any _ _ _ _ _ (by assumption) (by assumption) (by first | assumption | decide) (by first | assumption | decide) (by first | assumption | decide) (by first | assumption | decide) Hz.out).mono ?_; rintro e w' ⟨rfl, rfl⟩))
        all_goals
          go_ret2
          exact ⟨ret_bin rfl, rfl⟩

theorem binI_any (op k x y : Int) (w : World) (hx : 0 ≤ x) (hx2 : x < 18446744073709551616) (hy : 0 ≤ y) (hy2 : y < 18446744073709551616) (hk : k ≠ 10) :
    Calls Try.prog 36 #[.int .i64 op, .int .i64 k, .int .u64 x, .int .u64 y] w fun e w' => e = .returned (.tuple #[.int .u64 (Wd.binI op k x y).1, .int .i64 (Wd.binI op k x y).2]) ∧ w' = w := by
  have hk' : (k == 10) = false := by simpa using hk
  unfold Wd.binI
  cases hh : Wd.hasBinB op k
  · rw [if_pos rfl]; exact binI_kind op k x y w hh
  · rw [if_neg (by simp)]
    by_cases hf : Wd.isB k x = false ∨ Wd.isB (if Wd.shB op then 9 else k) y = false
    · rw [if_pos hf]; exact binI_form op k x y w hx hx2 hy hy2 hh hf
    · rw [if_neg hf]
      have hix : Wd.isB k x = true := by cases h : Wd.isB k x; { exact absurd (.inl h) hf }; rfl
      have hiy : Wd.isB (if Wd.shB op then 9 else k) y = true := by cases h : Wd.isB (if Wd.shB op then 9 else k) y; { exact absurd (.inr h) hf }; rfl
      by_cases hz : y = 0 ∧ (op = 4 ∨ op = 5)
      · rw [if_pos hz]
        obtain ⟨rfl, ho⟩ := hz
        have hs : Wd.shB op = false := by rcases ho with rfl | rfl <;> rfl
        rw [hs] at hiy
        exact binI_zero op k x w hx hx2 ho hk' hh hix hiy
      · rw [if_neg hz]
        refine (binI_ok op k x y w hx hx2 hy hy2 hk' hh hix hiy (by intro h; have : y ≠ 0 := fun e => hz ⟨e, h⟩; omega)).mono ?_
        rintro e w' ⟨rfl, rfl⟩
        refine ⟨?_, rfl⟩
        split <;> rfl

end Go.Proofs.Ytkpmhgkljedapaa
