/- The page's Bin, Un, Conv: the same functions as package word's. -/
import Derived.Test.YtjhcamcdmebpnaaRAll
namespace Go.Proofs.Ytjhcamcdmebpnaa
open Go.RowKit
set_option linter.unusedVariables false

set_option maxHeartbeats 400000 in
theorem rbin_kind (op k x y : Int) (w : World) (hh : Wd.hasBinB op k = false) :
    Calls Try.prog 12 #[.int .i64 op, .int .i64 k, .int .u64 x, .int .u64 y] w fun e w' => e = .returned (.tuple #[.int .u64 0, .int .i64 10]) ∧ w' = w := by
  go_enter Try.func12, Try.ntmps12
  go_wp2_with (go_at_call 36; refine (rhasBin_any _ _ _).mono ?_; rintro e w' ⟨rfl, rfl⟩)
  go_ret2
  exact ⟨rfl, rfl⟩

set_option maxHeartbeats 1000000 in
theorem rbin_form (op k x y : Int) (w : World) (hx : 0 ≤ x) (hx2 : x < 18446744073709551616) (hy : 0 ≤ y) (hy2 : y < 18446744073709551616)
    (hh : Wd.hasBinB op k = true) (hf : Wd.isB k x = false ∨ Wd.isB k x = true ∧ Wd.shB op = false ∧ Wd.isB k y = false) :
    Calls Try.prog 12 #[.int .i64 op, .int .i64 k, .int .u64 x, .int .u64 y] w fun e w' => e = .returned (.tuple #[.int .u64 0, .int .i64 11]) ∧ w' = w := by
  rcases hf with h | ⟨h, h', h''⟩
  all_goals
    go_enter Try.func12, Try.ntmps12
    go_wp2_with (first | (go_at_call 36; refine (rhasBin_any _ _ _).mono ?_; rintro e w' ⟨rfl, rfl⟩) | (go_at_call 22; refine (ris_any _ _ _ (by assumption) (by assumption)).mono ?_; rintro e w' ⟨rfl, rfl⟩) | (go_at_call 37; refine (rshift_any _ _).mono ?_; rintro e w' ⟨rfl, rfl⟩))
    go_ret2
    exact ⟨rfl, rfl⟩

set_option maxHeartbeats 1000000 in
theorem rbin_float (op x y : Int) (w : World) (hx : 0 ≤ x) (hx2 : x < 18446744073709551616) (hy : 0 ≤ y) (hy2 : y < 18446744073709551616) (hh : Wd.hasBinB op 10 = true) :
    Calls Try.prog 12 #[.int .i64 op, .int .i64 10, .int .u64 x, .int .u64 y] w fun e w' => e = .returned (.tuple #[.int .u64 (Fl.bf op x y), .int .i64 0]) ∧ ∃ n, w' = w.drewN n := by
  have f1 := frombits
  have i1 := is10 hx hx2
  have i2 := is10 hy hy2
  have hs : Wd.shB op = false := by
    cases h : Wd.shB op
    · rfl
    · have : op = 9 ∨ op = 10 := by simpa [Wd.shB] using h
      rcases this with rfl | rfl <;> simp [Wd.hasBinB, Wd.intB, Wd.cmpB] at hh
  go_enter Try.func12, Try.ntmps12
  go_wp2_with (first | (go_at_call 36; refine (rhasBin_any _ _ _).mono ?_; rintro e w' ⟨rfl, rfl⟩) | (go_at_call 22; refine (ris_any _ _ _ (by assumption) (by assumption)).mono ?_; rintro e w' ⟨rfl, rfl⟩) | (go_at_call 37; refine (rshift_any _ _).mono ?_; rintro e w' ⟨rfl, rfl⟩) | (go_at_call 38; refine (rfloats_any _ _ _ _ (by assumption)).mono ?_; rintro e w' ⟨rfl, n, rfl⟩))
  go_ret2
  exact ⟨rfl, _, rfl⟩

theorem rbin_any (op k x y : Int) (w : World) (hx : 0 ≤ x) (hx2 : x < 18446744073709551616) (hy : 0 ≤ y) (hy2 : y < 18446744073709551616) :
    Calls Try.prog 12 #[.int .i64 op, .int .i64 k, .int .u64 x, .int .u64 y] w fun e w' => e = .returned (.tuple #[.int .u64 (Fl.binA op k x y).1, .int .i64 (Fl.binA op k x y).2]) ∧ ∃ n, w' = w.drewN n := by
  have lift : ∀ {v e' : Int} {c : Int × Int}, c = (v, e') → Calls Try.prog 12 #[.int .i64 op, .int .i64 k, .int .u64 x, .int .u64 y] w (fun e w' => e = .returned (.tuple #[.int .u64 v, .int .i64 e']) ∧ w' = w) →
      Calls Try.prog 12 #[.int .i64 op, .int .i64 k, .int .u64 x, .int .u64 y] w (fun e w' => e = .returned (.tuple #[.int .u64 c.1, .int .i64 c.2]) ∧ ∃ n, w' = w.drewN n) := by
    intro v e' c hc h
    subst hc
    refine h.mono ?_
    rintro e w' ⟨rfl, rfl⟩
    exact ⟨rfl, 0, rfl⟩
  by_cases hk : k = 10
  · subst hk
    rw [show Fl.binA op 10 x y = Fl.binF op x y from rfl]
    unfold Fl.binF
    cases hh : Wd.hasBinB op 10
    · rw [if_neg (by simp)]
      exact lift rfl (rbin_kind op 10 x y w hh)
    · rw [if_pos rfl]
      exact rbin_float op x y w hx hx2 hy hy2 hh
  · have hk' : (k == 10) = false := by simpa using hk
    rw [show Fl.binA op k x y = Wd.binI op k x y from if_neg hk]
    cases hh : Wd.hasBinB op k
    · exact lift (by unfold Wd.binI; rw [if_pos hh]) (rbin_kind op k x y w hh)
    · cases hix : Wd.isB k x
      · exact lift (by unfold Wd.binI; rw [if_neg (by simp [hh]), if_pos (.inl hix)]) (rbin_form op k x y w hx hx2 hy hy2 hh (.inl hix))
      · have ho := Wd.hasBin_ops hh
        cases hs : Wd.shB op
        · cases hiy : Wd.isB k y
          · exact lift (by unfold Wd.binI; rw [if_neg (by simp [hh]), hs, if_pos (.inr hiy)]) (rbin_form op k x y w hx hx2 hy hy2 hh (.inr ⟨hix, hs, hiy⟩))
          · have n9 : op ≠ 9 := by rintro rfl; cases hs
            have n10 : op ≠ 10 := by rintro rfl; cases hs
            by_cases hz : y = 0 ∧ (op = 4 ∨ op = 5)
            · have e : Wd.binI op k x y = (0, 12) := by unfold Wd.binI; rw [if_neg (by simp [hh]), hs, if_neg (by simp [hix, hiy]), if_pos hz]
              obtain ⟨rfl, h45⟩ := hz
              exact lift e (rbin_zero op k x w hx hx2 hk' h45 hh hix hiy)
            · have e : Wd.binI op k x y = (Wd.wv op k x y, 0) := by
                unfold Wd.binI Wd.wv; rw [if_neg (by simp [hh]), hs, if_neg (by simp [hix, hiy]), if_neg hz]; split <;> rfl
              by_cases h45 : op = 4 ∨ op = 5
              · rw [e]; exact rbin_div op k x y w hx hx2 (by have : y ≠ 0 := fun h => hz ⟨h, h45⟩; omega) hy2 hk' h45 hh hix hiy
              · by_cases h3 : op ≤ 3
                · exact lift e (rbin_arith op k x y w hx hx2 hy hy2 hk' (by omega) hh hix hiy)
                · by_cases h8 : op ≤ 8
                  · exact lift e (rbin_bits op k x y w hx hx2 hy hy2 hk' (by omega) hh hix hiy)
                  · exact lift e (rbin_cmp op k x y w hx hx2 hy hy2 hk' (by omega) (by omega) hh hix hiy)
        · have h9 : op = 9 ∨ op = 10 := by simpa [Wd.shB] using hs
          have e : Wd.binI op k x y = (Wd.wv op k x y, 0) := by
            unfold Wd.binI Wd.wv; rw [if_neg (by simp [hh]), hs, if_neg (by simp [hix, Wd.is_u64 hy hy2]), if_neg (by omega)]; split <;> rfl
          exact lift e (rbin_shift op k x y w hx hx2 hy hy2 hk' h9 hh hix)

set_option maxHeartbeats 400000 in
theorem run_kind (op k x : Int) (w : World) (hh : Wd.hasUnB op k = false) :
    Calls Try.prog 11 #[.int .i64 op, .int .i64 k, .int .u64 x] w fun e w' => e = .returned (.tuple #[.int .u64 0, .int .i64 10]) ∧ w' = w := by
  go_enter Try.func11, Try.ntmps11
  go_wp2_with (go_at_call 35; refine (rhasUn_any _ _ _).mono ?_; rintro e w' ⟨rfl, rfl⟩)
  go_ret2
  exact ⟨rfl, rfl⟩
set_option maxHeartbeats 400000 in
theorem run_form (op k x : Int) (w : World) (hx : 0 ≤ x) (hx2 : x < 18446744073709551616) (hh : Wd.hasUnB op k = true) (hi : Wd.isB k x = false) :
    Calls Try.prog 11 #[.int .i64 op, .int .i64 k, .int .u64 x] w fun e w' => e = .returned (.tuple #[.int .u64 0, .int .i64 11]) ∧ w' = w := by
  go_enter Try.func11, Try.ntmps11
  go_wp2_with (first | (go_at_call 35; refine (rhasUn_any _ _ _).mono ?_; rintro e w' ⟨rfl, rfl⟩) | (go_at_call 22; refine (ris_any _ _ _ (by assumption) (by assumption)).mono ?_; rintro e w' ⟨rfl, rfl⟩))
  go_ret2
  exact ⟨rfl, rfl⟩

set_option maxHeartbeats 1000000 in
theorem run_ok (op k x : Int) (w : World) (hx : 0 ≤ x) (hx2 : x < 18446744073709551616) (hh : Wd.hasUnB op k = true) (hi : Wd.isB k x = true) :
    Calls Try.prog 11 #[.int .i64 op, .int .i64 k, .int .u64 x] w fun e w' => e = .returned (.tuple #[.int .u64 (Wd.unI op k x).1, .int .i64 (Wd.unI op k x).2]) ∧ w' = w := by
  have Hu : Hid (_ = _) := unI_ok hh hi
  have Hf : Hid (_ = _) := bits_flip hx hx2
  have hop : op = 1 ∨ op = 2 ∨ op = 3 := by simp [Wd.hasUnB] at hh; omega
  have Hn : Hid (op = 2 → Wd.canon k (18446744073709551615 - x) = 1 - x) := by
    show op = 2 → _
    rintro rfl
    have hk : k = 1 := by simpa [Wd.hasUnB] using hh
    subst hk
    simp only [Wd.isB, Wd.canon1, Bool.and_eq_true, beq_iff_eq] at hi
    rw [Wd.canon1]; omega
  by_cases hk : k = 10
  · subst hk
    have h1 : op = 1 := by simp [Wd.hasUnB, Wd.intB] at hh; omega
    subst h1
    clear hop
    go_enter Try.func11, Try.ntmps11
    go_wp2_with (first | (go_at_call 35; refine (rhasUn_any _ _ _).mono ?_; rintro e w' ⟨rfl, rfl⟩) | (go_at_call 22; refine (ris_any _ _ _ (by assumption) (by assumption)).mono ?_; rintro e w' ⟨rfl, rfl⟩))
    go_ret2
    refine ⟨ret_bin ?_, rfl⟩
    show Wd.unI 1 10 x = _
    rw [Hu.out, if_neg (by decide), if_neg (by decide), if_pos (by trivial), Hf.out]
  · have hk' : (k == 10) = false := by simpa using hk
    have Hk : Hid (¬ k = 10) := hk
    clear hk
    rcases hop with rfl | rfl | rfl
    all_goals
      go_enter Try.func11, Try.ntmps11
      go_wp2_with (first | (go_at_call 35; refine (rhasUn_any _ _ _).mono ?_; rintro e w' ⟨rfl, rfl⟩) | (go_at_call 22; refine (ris_any _ _ _ (by assumption) (by assumption)).mono ?_; rintro e w' ⟨rfl, rfl⟩) | (go_at_call 20; refine (rcanon_any _ _ _ (by first | exact (wrap_rng _).1 | (rw [bits_com (by assumption) (by assumption)]; omega)) (by first | exact (wrap_rng _).2 | (rw [bits_com (by assumption) (by assumption)]; omega))).mono ?_; rintro e w' ⟨rfl, rfl⟩))
      go_ret2
      refine ⟨ret_bin ?_, rfl⟩
      show Wd.unI _ k x = _
      rw [Hu.out]
    · rw [if_neg (by decide), if_neg (by decide), if_neg Hk.out, Wd.canon_wrap]
    · rw [if_pos (by trivial), bits_com hx hx2, Hn.out (by trivial)]
    · rw [if_neg (by decide), if_pos (by trivial), bits_com hx hx2]

theorem run_any (op k x : Int) (w : World) (hx : 0 ≤ x) (hx2 : x < 18446744073709551616) :
    Calls Try.prog 11 #[.int .i64 op, .int .i64 k, .int .u64 x] w fun e w' => e = .returned (.tuple #[.int .u64 (Wd.unI op k x).1, .int .i64 (Wd.unI op k x).2]) ∧ w' = w := by
  cases hh : Wd.hasUnB op k
  · have e : Wd.unI op k x = (0, 10) := by unfold Wd.unI; rw [if_pos hh]
    rw [e]; exact run_kind op k x w hh
  · cases hi : Wd.isB k x
    · have e : Wd.unI op k x = (0, 11) := by unfold Wd.unI; rw [if_neg (by simp [hh]), if_pos hi]
      rw [e]; exact run_form op k x w hx hx2 hh hi
    · exact run_ok op k x w hx hx2 hh hi

end Go.Proofs.Ytjhcamcdmebpnaa
