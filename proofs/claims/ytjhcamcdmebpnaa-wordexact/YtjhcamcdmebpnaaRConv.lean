/- The page's Conv: its contract. -/
import Derived.Test.YtjhcamcdmebpnaaRTop
namespace Go.Proofs.Ytjhcamcdmebpnaa
open Go.RowKit
set_option linter.unusedVariables false

theorem ord_some {a b : Nat} (ha : (Ieee.double.read a).isNaN = false) (hb : (Ieee.double.read b).isNaN = false) : ∃ o, FloatKind.f64.format.order a b = some o := by
  show ∃ o, Ieee.Datum.order (Ieee.double.read a) (Ieee.double.read b) = some o
  generalize Ieee.double.read a = d at *
  generalize Ieee.double.read b = e at *
  cases d <;> cases e <;> first | (cases ha; done) | (cases hb; done) | exact ⟨_, rfl⟩

theorem fOfInt_no (n : Int) : (Ieee.double.read (floatOfInt .f64 n)).isNaN = false := Fl.write_num _ _ _

set_option maxHeartbeats 1000000 in
theorem rconv_ff (x : Int) (w : World) (hx : 0 ≤ x) (hx2 : x < 18446744073709551616) :
    Calls Try.prog 13 #[.int .i64 10, .int .i64 10, .int .u64 x] w fun e w' => e = .returned (.tuple #[.int .u64 x, .int .i64 0]) ∧ w' = w := by
  have i1 := is10 hx hx2
  have n1 : Wd.numB 10 = true := by decide
  go_enter Try.func13, Try.ntmps13
  go_wp2_with (first | (go_at_call 44; refine (rhasConv_any _ _ _).mono ?_; rintro e w' ⟨rfl, rfl⟩) | (go_at_call 22; refine (ris_any _ _ _ (by assumption) (by assumption)).mono ?_; rintro e w' ⟨rfl, rfl⟩))
  go_ret2
  exact ⟨rfl, rfl⟩

set_option maxHeartbeats 1000000 in
theorem rconv_fi (t x : Int) (w : World) (hx : 0 ≤ x) (hx2 : x < 18446744073709551616) (ht : (t == 10) = false) (g : Wd.numB t = true) :
    Calls Try.prog 13 #[.int .i64 10, .int .i64 t, .int .u64 x] w fun e w' => e = .returned (.tuple #[.int .u64 (Wd.canon t (Fl.trunc x)), .int .i64 0]) ∧ w' = w := by
  have f1 := frombits
  have i1 := is10 hx hx2
  have n1 : Wd.numB 10 = true := by decide
  have Hc : Hid (∀ (h1 : Fl.loB x = true) (h2 : Fl.hiB x = true) (w : World), (convert 46 2 (.float .f64 x.toNat)).run Try.prog w = .ok (.int .i64 (Fl.toI x)) w) := fun h1 h2 w => conv_in h1 h2 w
  have Hl : Hid (Fl.loB x = (FloatKind.f64.format.order x.toNat 14114281232179134464 == some .gt || FloatKind.f64.format.order x.toNat 14114281232179134464 == some .eq)) := rfl
  have Hh : Hid (Fl.hiB x = (FloatKind.f64.format.order x.toNat 4890909195324358656 == some .lt)) := rfl
  cases hn : (Ieee.double.read x.toNat).isNaN
  · have hs := self_eq hn
    obtain ⟨p, o1⟩ := ord_some (b := 14114281232179134464) hn (by decide +kernel)
    obtain ⟨q, o2⟩ := ord_some (b := 4890909195324358656) hn (by decide +kernel)
    clear hn
    cases p <;> cases q
    all_goals first
      | (have h1 : Fl.loB x = true := by rw [Hl.out, o1]; rfl
         have h2 : Fl.hiB x = true := by rw [Hh.out, o2]; rfl
         have Ht : Hid (Fl.trunc x = Fl.toI x % 18446744073709551616) := by show _ = _; unfold Fl.trunc; rw [h1, h2]; rfl
         have hc := Hc.out h1 h2
         clear h1 h2
         go_enter Try.func13, Try.ntmps13
         go_wp2_with (first | (go_at_call 44; refine (rhasConv_any _ _ _).mono ?_; rintro e w' ⟨rfl, rfl⟩) | (go_at_call 22; refine (ris_any _ _ _ (by assumption) (by assumption)).mono ?_; rintro e w' ⟨rfl, rfl⟩) | (go_at_call 20; refine (rcanon_any _ _ _ (wrap_rng _).1 (wrap_rng _).2).mono ?_; rintro e w' ⟨rfl, rfl⟩))
         go_ret2
         exact ⟨ret_bin (by rw [Ht.out, IntKind.wrap_u64]), rfl⟩)
      | (have Ht : Hid (Fl.trunc x = 9223372036854775808) := by show _ = _; unfold Fl.trunc; rw [Hl.out, Hh.out, o1, o2]; rfl
         go_enter Try.func13, Try.ntmps13
         go_wp2_with (first | (go_at_call 44; refine (rhasConv_any _ _ _).mono ?_; rintro e w' ⟨rfl, rfl⟩) | (go_at_call 22; refine (ris_any _ _ _ (by assumption) (by assumption)).mono ?_; rintro e w' ⟨rfl, rfl⟩) | (go_at_call 20; refine (rcanon_any _ _ _ (by decide) (by decide)).mono ?_; rintro e w' ⟨rfl, rfl⟩))
         go_ret2
         exact ⟨ret_bin (by rw [Ht.out]), rfl⟩)
  · have hs := self_ne hn
    have o1 : FloatKind.f64.format.order x.toNat 14114281232179134464 = none := Fl.order_nan (e := Ieee.double.read 14114281232179134464) hn
    have Ht : Hid (Fl.trunc x = 9223372036854775808) := by show _ = _; unfold Fl.trunc; rw [Hl.out, o1]; rfl
    clear hn
    go_enter Try.func13, Try.ntmps13
    go_wp2_with (first | (go_at_call 44; refine (rhasConv_any _ _ _).mono ?_; rintro e w' ⟨rfl, rfl⟩) | (go_at_call 22; refine (ris_any _ _ _ (by assumption) (by assumption)).mono ?_; rintro e w' ⟨rfl, rfl⟩) | (go_at_call 20; refine (rcanon_any _ _ _ (by decide) (by decide)).mono ?_; rintro e w' ⟨rfl, rfl⟩))
    go_ret2
    exact ⟨ret_bin (by rw [Ht.out]), rfl⟩

set_option maxHeartbeats 1000000 in
theorem rconv_if (k x : Int) (w : World) (hx : 0 ≤ x) (hx2 : x < 18446744073709551616) (hk : (k == 10) = false) (h : Wd.numB k = true) (hi : Wd.isB k x = true) :
    Calls Try.prog 13 #[.int .i64 k, .int .i64 10, .int .u64 x] w fun e w' => e = .returned (.tuple #[.int .u64 (Fl.nr k x), .int .i64 0]) ∧ w' = w := by
  have n1 : Wd.numB 10 = true := by decide
  cases hs : Wd.sgnB k
  · have Hn : Hid (Fl.nr k x = (floatOfInt .f64 x : Nat)) := by show _ = _; unfold Fl.nr; rw [hs]; rfl
    go_enter Try.func13, Try.ntmps13
    go_wp2_with (first | (go_at_call 44; refine (rhasConv_any _ _ _).mono ?_; rintro e w' ⟨rfl, rfl⟩) | (go_at_call 22; refine (ris_any _ _ _ (by assumption) (by assumption)).mono ?_; rintro e w' ⟨rfl, rfl⟩) | (go_at_call 45; refine (rsigned_any _ _).mono ?_; rintro e w' ⟨rfl, rfl⟩) | (go_at_call 46; refine (rbits_no _ _ (fOfInt_no _)).mono ?_; rintro e w' ⟨rfl, rfl⟩))
    go_ret2
    exact ⟨ret_bin (by rw [Hn.out]), rfl⟩
  · have Hn : Hid (Fl.nr k x = (floatOfInt .f64 (wrap64 x) : Nat)) := by show _ = _; unfold Fl.nr; rw [hs, sg_wrap]; rfl
    go_enter Try.func13, Try.ntmps13
    go_wp2_with (first | (go_at_call 44; refine (rhasConv_any _ _ _).mono ?_; rintro e w' ⟨rfl, rfl⟩) | (go_at_call 22; refine (ris_any _ _ _ (by assumption) (by assumption)).mono ?_; rintro e w' ⟨rfl, rfl⟩) | (go_at_call 45; refine (rsigned_any _ _).mono ?_; rintro e w' ⟨rfl, rfl⟩) | (go_at_call 46; refine (rbits_no _ _ (fOfInt_no _)).mono ?_; rintro e w' ⟨rfl, rfl⟩))
    go_ret2
    exact ⟨ret_bin (by rw [Hn.out]), rfl⟩

set_option maxHeartbeats 1000000 in
theorem rconv_ii (k t x : Int) (w : World) (hx : 0 ≤ x) (hx2 : x < 18446744073709551616) (hk : (k == 10) = false) (ht : (t == 10) = false) (h : Wd.numB k = true) (g : Wd.numB t = true) (hi : Wd.isB k x = true) :
    Calls Try.prog 13 #[.int .i64 k, .int .i64 t, .int .u64 x] w fun e w' => e = .returned (.tuple #[.int .u64 (Wd.canon t x), .int .i64 0]) ∧ w' = w := by
  go_enter Try.func13, Try.ntmps13
  go_wp2_with (first | (go_at_call 44; refine (rhasConv_any _ _ _).mono ?_; rintro e w' ⟨rfl, rfl⟩) | (go_at_call 22; refine (ris_any _ _ _ (by assumption) (by assumption)).mono ?_; rintro e w' ⟨rfl, rfl⟩) | (go_at_call 20; refine (rcanon_any _ _ _ (by assumption) (by assumption)).mono ?_; rintro e w' ⟨rfl, rfl⟩))
  go_ret2
  exact ⟨rfl, rfl⟩

set_option maxHeartbeats 400000 in
theorem rconv_kind (k t x : Int) (w : World) (h : (Wd.numB k && Wd.numB t) = false) :
    Calls Try.prog 13 #[.int .i64 k, .int .i64 t, .int .u64 x] w fun e w' => e = .returned (.tuple #[.int .u64 0, .int .i64 10]) ∧ w' = w := by
  go_enter Try.func13, Try.ntmps13
  go_wp2_with (go_at_call 44; refine (rhasConv_any _ _ _).mono ?_; rw [h]; rintro e w' ⟨rfl, rfl⟩)
  go_ret2
  exact ⟨rfl, rfl⟩
set_option maxHeartbeats 400000 in
theorem rconv_form (k t x : Int) (w : World) (hx : 0 ≤ x) (hx2 : x < 18446744073709551616) (h : Wd.numB k = true) (g : Wd.numB t = true) (hi : Wd.isB k x = false) :
    Calls Try.prog 13 #[.int .i64 k, .int .i64 t, .int .u64 x] w fun e w' => e = .returned (.tuple #[.int .u64 0, .int .i64 11]) ∧ w' = w := by
  go_enter Try.func13, Try.ntmps13
  go_wp2_with (first | (go_at_call 44; refine (rhasConv_any _ _ _).mono ?_; rintro e w' ⟨rfl, rfl⟩) | (go_at_call 22; refine (ris_any _ _ _ (by assumption) (by assumption)).mono ?_; rintro e w' ⟨rfl, rfl⟩))
  go_ret2
  exact ⟨rfl, rfl⟩

theorem rconv_any (k t x : Int) (w : World) (hx : 0 ≤ x) (hx2 : x < 18446744073709551616) :
    Calls Try.prog 13 #[.int .i64 k, .int .i64 t, .int .u64 x] w fun e w' => e = .returned (.tuple #[.int .u64 (Fl.convA k t x).1, .int .i64 (Fl.convA k t x).2]) ∧ w' = w := by
  cases hn : (Wd.numB k && Wd.numB t)
  · have e : Fl.convA k t x = (0, 10) := by unfold Fl.convA; rw [if_pos hn]
    rw [e]; exact rconv_kind k t x w hn
  · obtain ⟨h, g⟩ : Wd.numB k = true ∧ Wd.numB t = true := by simpa using hn
    cases hi : Wd.isB k x
    · have e : Fl.convA k t x = (0, 11) := by unfold Fl.convA; rw [if_neg (by simp [hn]), if_pos hi]
      rw [e]; exact rconv_form k t x w hx hx2 h g hi
    · unfold Fl.convA
      rw [if_neg (by simp [hn]), if_neg (by simp [hi])]
      by_cases hk : k = 10
      · by_cases ht : t = 10
        · subst hk ht
          rw [if_pos ⟨rfl, rfl⟩]; exact rconv_ff x w hx hx2
        · subst hk
          rw [if_neg (fun h => ht h.2), if_pos rfl]; exact rconv_fi t x w hx hx2 (by simpa using ht) g
      · by_cases ht : t = 10
        · subst ht
          rw [if_neg (fun h => hk h.1), if_neg hk, if_pos rfl]; exact rconv_if k x w hx hx2 (by simpa using hk) h hi
        · rw [if_neg (fun h => hk h.1), if_neg hk, if_neg ht]; exact rconv_ii k t x w hx hx2 (by simpa using hk) (by simpa using ht) h g hi

end Go.Proofs.Ytjhcamcdmebpnaa
