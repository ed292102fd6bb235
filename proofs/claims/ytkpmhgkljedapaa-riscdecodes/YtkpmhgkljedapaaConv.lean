/- Conv: its contract. -/
import Derived.Test.YtkpmhgkljedapaaFConv
namespace Go.Proofs.Ytkpmhgkljedapaa
open Go.RowKit
set_option linter.unusedVariables false

namespace Fl
/-- a whole number as a float -/
def nr (k x : Int) : Int := (floatOfInt .f64 (if Wd.sgnB k then Wd.sg x else x) : Nat)
def convA (k t x : Int) : Int × Int :=
  if (Wd.numB k && Wd.numB t) = false then (0, 10) else if Wd.isB k x = false then (0, 11) else if k = 10 ∧ t = 10 then (x, 0)
  else if k = 10 then (Wd.canon t (trunc x), 0) else if t = 10 then (nr k x, 0) else (Wd.canon t x, 0)
end Fl

theorem conv_in {x : Int} (h1 : Fl.loB x = true) (h2 : Fl.hiB x = true) (w : World) : (convert 71 2 (.float .f64 x.toNat)).run Try.prog w = .ok (.int .i64 (Fl.toI x)) w := by
  obtain ⟨a, b, c⟩ := Fl.toI_in h1 h2
  refine run_convert_float_int w 71 2 .f64 .i64 x.toNat (Fl.toI x) (by rw [Try.underlying71]; rfl) Try.underlying2 ?_
  unfold floatToIntVal
  have e : (FloatKind.decode .f64 x.toNat).toInt .zero = some (Fl.toI x) := a
  rw [e]
  have d : IntKind.i64.min ≤ Fl.toI x ∧ Fl.toI x ≤ IntKind.i64.max := ⟨b, c⟩
  simp only [if_pos d]

set_option maxHeartbeats 400000 in
theorem truncate_any (x : Int) (w : World) :
    Calls Try.prog 50 #[.int .u64 x] w fun e w' => e = .returned (.int .u64 (Fl.trunc x)) ∧ w' = w := by
  have f1 := frombits
  have Hc : Hid (∀ (h1 : Fl.loB x = true) (h2 : Fl.hiB x = true) (w : World), (convert 71 2 (.float .f64 x.toNat)).run Try.prog w = .ok (.int .i64 (Fl.toI x)) w) := fun h1 h2 w => conv_in h1 h2 w
  have Hl : Hid (Fl.loB x = (FloatKind.f64.format.order x.toNat 14114281232179134464 == some .gt || FloatKind.f64.format.order x.toNat 14114281232179134464 == some .eq)) := rfl
  have Hh : Hid (Fl.hiB x = (FloatKind.f64.format.order x.toNat 4890909195324358656 == some .lt)) := rfl
  cases o1 : FloatKind.f64.format.order x.toNat 14114281232179134464 with
  | none =>
    have Ht : Hid (Fl.trunc x = 9223372036854775808) := by show _ = _; unfold Fl.trunc; rw [Hl.out, o1]; rfl
    go_enter Try.func50, Try.ntmps50
    go_wp2
    go_ret
    exact ⟨ret_u64 Ht.out.symm, rfl⟩
  | some p =>
    cases o2 : FloatKind.f64.format.order x.toNat 4890909195324358656 with
    | none =>
      have Ht : Hid (Fl.trunc x = 9223372036854775808) := by show _ = _; unfold Fl.trunc; rw [Hl.out, Hh.out, o1, o2]; cases p <;> rfl
      cases p
      all_goals
        go_enter Try.func50, Try.ntmps50
        go_wp2
        go_ret
        exact ⟨ret_u64 Ht.out.symm, rfl⟩
    | some q =>
      cases p <;> cases q
      all_goals first
        | (have h1 : Fl.loB x = true := by rw [Hl.out, o1]; rfl
           have h2 : Fl.hiB x = true := by rw [Hh.out, o2]; rfl
           have Ht : Hid (Fl.trunc x = Fl.toI x % 18446744073709551616) := by show _ = _; unfold Fl.trunc; rw [h1, h2]; rfl
           have hc := Hc.out h1 h2
           clear h1 h2
           go_enter Try.func50, Try.ntmps50
           go_wp2
           go_ret
           exact ⟨ret_u64 (by rw [Ht.out, IntKind.wrap_u64]), rfl⟩)
        | (have Ht : Hid (Fl.trunc x = 9223372036854775808) := by show _ = _; unfold Fl.trunc; rw [Hl.out, Hh.out, o1, o2]; rfl
           go_enter Try.func50, Try.ntmps50
           go_wp2
           go_ret
           exact ⟨ret_u64 Ht.out.symm, rfl⟩)

theorem trunc_rng (x : Int) : 0 ≤ Fl.trunc x ∧ Fl.trunc x < 18446744073709551616 := by unfold Fl.trunc; split <;> omega

set_option maxHeartbeats 400000 in
theorem nearest_any (k x : Int) (w : World) (hx : 0 ≤ x) (hx2 : x < 18446744073709551616) :
    Calls Try.prog 51 #[.int .i64 k, .int .u64 x] w fun e w' => e = .returned (.int .u64 (Fl.nr k x)) ∧ w' = w := by
  have f2 := tobits
  cases hs : Wd.sgnB k
  · have Hn : Hid (Fl.nr k x = (floatOfInt .f64 x : Nat)) := by show _ = _; unfold Fl.nr; rw [hs]; rfl
    go_enter Try.func51, Try.ntmps51
    go_wp2_with (go_at_call 43; refine (signed_any _ _).mono ?_; rintro e w' ⟨rfl, rfl⟩)
    go_ret
    exact ⟨ret_u64 Hn.out.symm, rfl⟩
  · have Hn : Hid (Fl.nr k x = (floatOfInt .f64 (wrap64 x) : Nat)) := by show _ = _; unfold Fl.nr; rw [hs, sg_wrap]; rfl
    go_enter Try.func51, Try.ntmps51
    go_wp2_with (go_at_call 43; refine (signed_any _ _).mono ?_; rintro e w' ⟨rfl, rfl⟩)
    go_ret
    exact ⟨ret_u64 Hn.out.symm, rfl⟩

set_option maxHeartbeats 400000 in
theorem conv_kind (k t x : Int) (w : World) (h : (Wd.numB k && Wd.numB t) = false) :
    Calls Try.prog 38 #[.int .i64 k, .int .i64 t, .int .u64 x] w fun e w' => e = .returned (.tuple #[.int .u64 0, .int .i64 10]) ∧ w' = w := by
  have h' : Wd.numB k = false ∨ Wd.numB k = true ∧ Wd.numB t = false := by revert h; cases Wd.numB k <;> cases Wd.numB t <;> simp
  clear h
  rcases h' with h | ⟨h, g⟩
  all_goals
    go_enter Try.func38, Try.ntmps38
    go_wp2_with (go_at_call 49; refine (number_any _ _).mono ?_; rintro e w' ⟨rfl, rfl⟩)
    go_ret2
    exact ⟨rfl, rfl⟩

set_option maxHeartbeats 400000 in
theorem conv_form (k t x : Int) (w : World) (hx : 0 ≤ x) (hx2 : x < 18446744073709551616) (h : Wd.numB k = true) (g : Wd.numB t = true) (hi : Wd.isB k x = false) :
    Calls Try.prog 38 #[.int .i64 k, .int .i64 t, .int .u64 x] w fun e w' => e = .returned (.tuple #[.int .u64 0, .int .i64 11]) ∧ w' = w := by
  go_enter Try.func38, Try.ntmps38
  go_wp2_with (first | (go_at_call 49; refine (number_any _ _).mono ?_; rintro e w' ⟨rfl, rfl⟩) | (go_at_call 41; refine (is_any _ _ _ (by assumption) (by assumption)).mono ?_; rintro e w' ⟨rfl, rfl⟩))
  go_ret2
  exact ⟨rfl, rfl⟩

set_option maxHeartbeats 1000000 in
theorem conv_ok (k t x : Int) (w : World) (hx : 0 ≤ x) (hx2 : x < 18446744073709551616) (h : Wd.numB k = true) (g : Wd.numB t = true) (hi : Wd.isB k x = true) :
    Calls Try.prog 38 #[.int .i64 k, .int .i64 t, .int .u64 x] w fun e w' => e = .returned (.tuple #[.int .u64 (if k = 10 ∧ t = 10 then x else if k = 10 then Wd.canon t (Fl.trunc x) else if t = 10 then Fl.nr k x else Wd.canon t x), .int .i64 0]) ∧ w' = w := by
  have tr1 := (trunc_rng x).1
  have tr2 := (trunc_rng x).2
  by_cases hk : k = 10
  · by_cases ht : t = 10
    · subst hk ht
      rw [if_pos ⟨rfl, rfl⟩]
      go_enter Try.func38, Try.ntmps38
      go_wp2_with (first | (go_at_call 49; refine (number_any _ _).mono ?_; rintro e w' ⟨rfl, rfl⟩) | (go_at_call 41; refine (is_any _ _ _ (by assumption) (by assumption)).mono ?_; rintro e w' ⟨rfl, rfl⟩))
      go_ret2
      exact ⟨rfl, rfl⟩
    · subst hk
      rw [if_neg (fun h => ht h.2), if_pos rfl]
      have ht' : (t == 10) = false := by simpa using ht
      clear ht
      go_enter Try.func38, Try.ntmps38
      go_wp2_with (first | (go_at_call 49; refine (number_any _ _).mono ?_; rintro e w' ⟨rfl, rfl⟩) | (go_at_call 41; refine (is_any _ _ _ (by assumption) (by assumption)).mono ?_; rintro e w' ⟨rfl, rfl⟩) | (go_at_call 50; refine (truncate_any _ _).mono ?_; rintro e w' ⟨rfl, rfl⟩) | (go_at_call 47; refine (canon_any _ _ _ (by assumption) (by assumption)).mono ?_; rintro e w' ⟨rfl, rfl⟩))
      go_ret2
      exact ⟨rfl, rfl⟩
  · rw [if_neg (fun h => hk h.1), if_neg hk]
    have hk' : (k == 10) = false := by simpa using hk
    clear hk
    by_cases ht : t = 10
    · subst ht
      rw [if_pos rfl]
      go_enter Try.func38, Try.ntmps38
      go_wp2_with (first | (go_at_call 49; refine (number_any _ _).mono ?_; rintro e w' ⟨rfl, rfl⟩) | (go_at_call 41; refine (is_any _ _ _ (by assumption) (by assumption)).mono ?_; rintro e w' ⟨rfl, rfl⟩) | (go_at_call 51; refine (nearest_any _ _ _ (by assumption) (by assumption)).mono ?_; rintro e w' ⟨rfl, rfl⟩))
      go_ret2
      exact ⟨rfl, rfl⟩
    · rw [if_neg ht]
      have ht' : (t == 10) = false := by simpa using ht
      clear ht
      go_enter Try.func38, Try.ntmps38
      go_wp2_with (first | (go_at_call 49; refine (number_any _ _).mono ?_; rintro e w' ⟨rfl, rfl⟩) | (go_at_call 41; refine (is_any _ _ _ (by assumption) (by assumption)).mono ?_; rintro e w' ⟨rfl, rfl⟩) | (go_at_call 47; refine (canon_any _ _ _ (by assumption) (by assumption)).mono ?_; rintro e w' ⟨rfl, rfl⟩))
      go_ret2
      exact ⟨rfl, rfl⟩

theorem conv_any (k t x : Int) (w : World) (hx : 0 ≤ x) (hx2 : x < 18446744073709551616) :
    Calls Try.prog 38 #[.int .i64 k, .int .i64 t, .int .u64 x] w fun e w' => e = .returned (.tuple #[.int .u64 (Fl.convA k t x).1, .int .i64 (Fl.convA k t x).2]) ∧ w' = w := by
  cases hn : (Wd.numB k && Wd.numB t)
  · have e : Fl.convA k t x = (0, 10) := by unfold Fl.convA; rw [if_pos hn]
    rw [e]; exact conv_kind k t x w hn
  · obtain ⟨h, g⟩ : Wd.numB k = true ∧ Wd.numB t = true := by simpa using hn
    cases hi : Wd.isB k x
    · have e : Fl.convA k t x = (0, 11) := by unfold Fl.convA; rw [if_neg (by simp [hn]), if_pos hi]
      rw [e]; exact conv_form k t x w hx hx2 h g hi
    · have e : Fl.convA k t x = (if k = 10 ∧ t = 10 then x else if k = 10 then Wd.canon t (Fl.trunc x) else if t = 10 then Fl.nr k x else Wd.canon t x, 0) := by
        unfold Fl.convA; rw [if_neg (by simp [hn]), if_neg (by simp [hi])]
        repeat' split
        all_goals rfl
      rw [e]; exact conv_ok k t x w hx hx2 h g hi

end Go.Proofs.Ytkpmhgkljedapaa
