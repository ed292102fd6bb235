/- gantryref7's small ones: Is, Scalar, ahead, entry. -/
import Derived.Test.YtdfjaedafampaaaG6
namespace Go.Proofs.Ytdfjaedafampaaa
open Go.RowKit
set_option linter.unusedVariables false

theorem ris7_any (a : Option Addr) (n c : Nat) (i : Int) (w : World) : Calls Try.prog 33 #[.slice a n c, .int .i64 i] w fun e w' => e = .returned (.bool (Ty.nmB n i)) ∧ w' = w := by
  go_enter Try.func33, Try.ntmps33
  go_wp2
  all_goals (go_ret; refine ⟨ret_bool ?_, rfl⟩; unfold Ty.nmB; first | rfl | (rw [Bool.eq_iff_iff]; simp at *; try omega))
theorem rscalar7_any (k : Int) (w : World) : Calls Try.prog 55 #[.int .i64 k] w fun e w' => e = .returned (.bool (Wd.wordB k)) ∧ w' = w := by
  have HC : Hid (∀ W, Calls Try.prog 62 #[.int .i64 k] W fun e w' => e = .returned (.bool (Wd.wordB k)) ∧ w' = W) := fun W => rword_any k W
  generalize Wd.wordB k = B at *
  go_enter Try.func55, Try.ntmps55
  go_wp2_with (go_at_call 62; refine (HC.out _).mono ?_; rintro e w3 ⟨rfl, rfl⟩)
  go_ret
  exact ⟨rfl, rfl⟩
def Ty.ahB (x : Ty.TyV) (i : Nat) : Bool := (List.range x.nf).all fun k => Ty.nmB i (x.F k)
theorem Ty.ahB_iff {x : Ty.TyV} {i : Nat} : Ty.ahB x i = true ↔ ∀ k, k < x.nf → 0 ≤ x.F k ∧ x.F k < i := by
  unfold Ty.ahB
  simp only [List.all_eq_true, List.mem_range, Ty.nmB_iff]
set_option maxRecDepth 100000 in
set_option maxHeartbeats 4000000 in
theorem rahead_any {N : Nat} {w : World} {x : Ty.TyV} {fa : Option Addr} {fc : Nat} (h : NumIn N w fa x.nf fc x.F) (h16 : x.nf ≤ 16) (i : Nat) :
    Calls Try.prog 54 #[.slice fa x.nf fc, .int .i64 i] w fun e w' => e = .returned (.bool (Ty.ahB x i)) ∧ w' = w := by
  have hle := h.le
  have hmx := h.max
  unfold maxLen at hmx
  have h16' : (x.nf : Int) ≤ 16 := by omega
  obtain ⟨R, hR⟩ : ∃ R, R = Ty.ahB x i := ⟨_, rfl⟩
  rw [← hR]
  have HR : Hid (R = Ty.ahB x i) := hR
  clear hR
  obtain ⟨n, hn⟩ : ∃ n, n = x.nf := ⟨_, rfl⟩
  have Hn : Hid (n = x.nf) := hn
  rw [← hn] at h16' hle ⊢
  have H : Hid (NumIn N w fa n fc x.F) := by show NumIn _ _ _ _ _ _; rw [hn]; exact h
  clear hn h
  go_enter Try.func54, Try.ntmps54
  go_wp2_with fail
  go_loopw [5] (fun ix wr => ∃ k : Nat, ix = .int .i64 k ∧ k ≤ n ∧ (∀ j, j < k → Ty.nmB i (x.F j) = true) ∧ wr = w) (fun ix _ => n - (intOf ix).toNat)
  case atStart => exact ⟨0, rfl, Nat.zero_le _, fun j hj => by omega, rfl⟩
  case round =>
    obtain ⟨k, rfl, hk, hj, rfl⟩ := hrel
    by_cases hkn : k < n
    · have hkn' : (k : Int) < n := by omega
      obtain ⟨b, off, rfl, hb, hc⟩ := H.out.at hkn
      cases hm : Ty.nmB i (x.F k)
      · have e : R = false := by
          rw [HR.out]
          cases hh : Ty.ahB x i
          · rfl
          · rw [Ty.nmB_iff.2 (Ty.ahB_iff.1 hh k (by rw [← Hn.out]; exact hkn))] at hm; cases hm
        have hy : x.F k < 0 ∨ (i : Int) ≤ x.F k := by
          by_cases h1 : 0 ≤ x.F k ∧ x.F k < i
          · rw [Ty.nmB_iff.2 h1] at hm; cases hm
          · omega
        generalize x.F k = y at *
        clear hj
        rcases hy with hy | hy
        · go_wp2
          go_ret
          exact ⟨by first | rfl | (rw [e]; rfl), rfl⟩
        · have hy0 : ¬ y < 0 := by omega
          go_wp2
          go_ret
          exact ⟨by first | rfl | (rw [e]; rfl), rfl⟩
      · obtain ⟨y1, y2⟩ := Ty.nmB_iff.1 hm
        have HJ : Hid (∀ j, j < k + 1 → Ty.nmB i (x.F j) = true) := fun j hj' => by
          by_cases e : j = k
          · subst e; exact hm
          · exact hj j (by omega)
        clear hj hm
        generalize x.F k = y at hc y1 y2
        have hy0 : ¬ y < 0 := by omega
        have hy1 : ¬ (i : Int) ≤ y := by omega
        go_wp2
        go_roundw
        case rel => exact ⟨k + 1, by go_num, by omega, HJ.out, by first | rfl | trivial⟩
        case measure => simp [intOf]; omega
    · obtain rfl : k = n := by omega
      have e : R = true := HR.out.trans (Ty.ahB_iff.2 fun j hj' => Ty.nmB_iff.1 (hj j (by rw [Hn.out]; exact hj')))
      clear hj
      go_wp2
      go_ret
      exact ⟨by first | rfl | (rw [e]; rfl), rfl⟩
set_option maxRecDepth 100000 in
set_option maxHeartbeats 8000000 in
theorem rentry_any {N : Nat} {w : World} {x : Ty.TyV} {fa : Option Addr} {fc : Nat} (h : NumIn N w fa x.nf fc x.F) (i n : Nat) :
    Calls Try.prog 45 #[.agg #[.int .i64 x.kind, .int .i64 x.elem, .int .i64 x.n, .slice fa x.nf fc], .int .i64 i, .int .i64 n] w fun e w' => e = .returned (.bool (Ty.okB x i n)) ∧ w.grownBy w' none := by
  have hle := h.le
  have hmx := h.max
  unfold maxLen at hmx
  have HF : Hid (x.nf ≤ 16 → ∀ W, w.grownBy W none → Calls Try.prog 54 #[.slice fa x.nf fc, .int .i64 i] W fun e w' => e = .returned (.bool (Ty.ahB x i)) ∧ w' = W) := fun h16 W hg => rahead_any (h.ch (l := []) (Ch.of hg) (by simp)) h16 i
  have hz : (x.nf == 0) = ((x.nf : Int) == 0) := by rw [Bool.eq_iff_iff]; simp
  have hfb : Ty.fldB x i = (decide ((x.nf : Int) ≤ 16) && Ty.ahB x i) := by
    rw [Bool.eq_iff_iff, Ty.fldB_iff]
    simp only [Bool.and_eq_true, decide_eq_true_eq, Ty.ahB_iff]
    constructor
    · intro h; exact ⟨by omega, h.2⟩
    · intro h; exact ⟨by omega, h.2⟩
  obtain ⟨R, hR⟩ : ∃ R, R = Ty.okB x i n := ⟨_, rfl⟩
  rw [← hR]
  unfold Ty.okB at hR
  rw [hz, hfb] at hR
  have HG : Hid (w.grownBy (w.alloc (Obj.cells #[.int .i64 x.kind, .int .i64 x.elem, .int .i64 x.n, .slice fa x.nf fc] 50)) none) := World.grownBy_alloc w _ none
  clear h hz hfb
  generalize Ty.ahB x i = fb at *
  obtain ⟨k, el, nn, nf, F⟩ := x
  simp only at *
  have hc : k = 11 ∨ k = 14 ∨ k = 12 ∨ k = 13 ∨ k = 15 ∨ ((k == 11) = false ∧ (k == 14) = false ∧ (k == 12) = false ∧ (k == 13) = false ∧ (k == 15) = false) := by
    simp only [beq_eq_false_iff_ne]; omega
  have h3 : (decide (0 ≤ el) = false ∧ Ty.nmB n el = false) ∨ (decide (0 ≤ el) = true ∧ decide (el < n) = false ∧ Ty.nmB n el = false) ∨ (decide (0 ≤ el) = true ∧ decide (el < n) = true ∧ Ty.nmB n el = true) := by
    unfold Ty.nmB
    cases decide (0 ≤ el) <;> cases decide (el < (n : Int)) <;> simp
  rcases hc with rfl | rfl | rfl | rfl | rfl | ⟨k1, k2, k3, k4, k5⟩
  · rw [if_pos (by decide)] at hR
    clear HF
    rcases h3 with ⟨e1, e2⟩ | ⟨e1, e3, e2⟩ | ⟨e1, e3, e2⟩
    · simp only [e2, Bool.false_and] at hR; subst hR; clear e2
      go_enter Try.func45, Try.ntmps45
      go_wp2
      go_ret
      exact ⟨rfl, HG.out⟩
    · simp only [e2, Bool.false_and] at hR; subst hR; clear e2
      go_enter Try.func45, Try.ntmps45
      go_wp2
      go_ret
      exact ⟨rfl, HG.out⟩
    · simp only [e2, Bool.true_and] at hR; clear e2
      go_enter Try.func45, Try.ntmps45
      go_wp2
      all_goals (go_ret; exact ⟨ret_bool (by rw [hR]; simp_all), by simpa [*] using HG.out⟩)
  · rw [if_pos (by decide)] at hR
    clear HF
    rcases h3 with ⟨e1, e2⟩ | ⟨e1, e3, e2⟩ | ⟨e1, e3, e2⟩
    · simp only [e2, Bool.false_and] at hR; subst hR; clear e2
      go_enter Try.func45, Try.ntmps45
      go_wp2
      go_ret
      exact ⟨rfl, HG.out⟩
    · simp only [e2, Bool.false_and] at hR; subst hR; clear e2
      go_enter Try.func45, Try.ntmps45
      go_wp2
      go_ret
      exact ⟨rfl, HG.out⟩
    · simp only [e2, Bool.true_and] at hR; clear e2
      go_enter Try.func45, Try.ntmps45
      go_wp2
      all_goals (go_ret; exact ⟨ret_bool (by rw [hR]; simp_all), by simpa [*] using HG.out⟩)
  · rw [if_neg (by decide), if_pos rfl] at hR
    clear HF h3
    unfold Ty.nmB at hR
    have HRh : Hid (R = (decide (0 ≤ el) && decide (el < i) && (decide (0 ≤ nn) && decide (nn < 65537)) && ((nf : Int) == 0))) := hR
    clear hR
    go_enter Try.func45, Try.ntmps45
    go_wp2
    all_goals (go_ret; exact ⟨ret_bool (by rw [HRh.out]; first | (simp_all; done) | (rw [Bool.eq_iff_iff]; simp at *; omega)), by simpa [*] using HG.out⟩)
  · rw [if_neg (by decide), if_neg (by decide), if_pos rfl] at hR
    clear h3
    by_cases h16 : nf ≤ 16
    · have h16' : (nf : Int) ≤ 16 := by omega
      have HD := HF.out h16 _ HG.out
      have HD' : Hid (Calls Try.prog 54 #[.slice fa nf fc, .int .i64 i] (w.alloc (Obj.cells #[.int .i64 13, .int .i64 el, .int .i64 nn, .slice fa nf fc] 50)) fun e w' => e = .returned (.bool fb) ∧ w' = (w.alloc (Obj.cells #[.int .i64 13, .int .i64 el, .int .i64 nn, .slice fa nf fc] 50))) := HD
      clear HF HD
      have hq : (el == 0) = false ∨ ((el == 0) = true ∧ (nn == 0) = false) ∨ (el = 0 ∧ nn = 0) := by
        cases h1 : el == 0 <;> cases h2 : nn == 0 <;> simp_all
      rcases hq with e1 | ⟨e1, e2⟩ | ⟨rfl, rfl⟩
      · simp only [e1, Bool.false_and] at hR; subst hR
        go_enter Try.func45, Try.ntmps45
        go_wp2
        all_goals (go_ret; exact ⟨rfl, HG.out⟩)
      · have e1' : el = 0 := by simpa using e1
        subst e1'
        simp only [e2, Bool.and_false, Bool.false_and] at hR; subst hR
        go_enter Try.func45, Try.ntmps45
        go_wp2
        all_goals (go_ret; exact ⟨rfl, HG.out⟩)
      · have hR' : R = fb := by rw [hR]; simp [h16']
        subst hR'
        clear hR
        go_enter Try.func45, Try.ntmps45
        go_wp2_with (go_at_call 54; refine HD'.out.mono ?_; rintro e w3 ⟨rfl, rfl⟩)
        all_goals (go_ret; exact ⟨rfl, HG.out⟩)
    · have h16' : ¬ (nf : Int) ≤ 16 := by omega
      have hR' : R = false := by rw [hR]; simp [h16']
      subst hR'
      clear HF hR
      by_cases hel : el = 0
      · subst hel
        go_enter Try.func45, Try.ntmps45
        go_wp2
        all_goals (go_ret; exact ⟨by first | rfl | (refine ret_bool ?_; simp_all), by simpa [*] using HG.out⟩)
      · have hel' : (el == 0) = false := by simpa using hel
        clear hel
        go_enter Try.func45, Try.ntmps45
        go_wp2
        all_goals (go_ret; exact ⟨by first | rfl | (refine ret_bool ?_; simp_all), by simpa [*] using HG.out⟩)
  · rw [if_neg (by decide), if_neg (by decide), if_neg (by decide)] at hR
    clear HF h3
    have HRh : Hid (R = ((el == 0) && (nn == 0) && ((nf : Int) == 0))) := by show R = _; rw [hR]; simp
    clear hR
    by_cases hel : el = 0
    · subst hel
      go_enter Try.func45, Try.ntmps45
      go_wp2
      all_goals (go_ret; exact ⟨ret_bool (by rw [HRh.out]; first | (simp_all; done) | (rw [Bool.eq_iff_iff]; simp at *; omega)), by simpa [*] using HG.out⟩)
    · have hel' : (el == 0) = false := by simpa using hel
      clear hel
      go_enter Try.func45, Try.ntmps45
      go_wp2
      all_goals (go_ret; exact ⟨ret_bool (by rw [HRh.out]; first | (simp_all; done) | (rw [Bool.eq_iff_iff]; simp at *; omega)), by simpa [*] using HG.out⟩)
  · rw [if_neg (by simp_all), if_neg (by simp_all), if_neg (by simp_all)] at hR
    clear HF h3
    have hw : (k == 15 || decide (1 ≤ k) && decide (k ≤ 10)) = Wd.wordB k := by
      unfold Wd.wordB
      rw [Bool.eq_iff_iff]
      simp at *
      omega
    rw [hw] at hR
    have HC : Hid (∀ W, Calls Try.prog 55 #[.int .i64 k] W fun e w' => e = .returned (.bool (Wd.wordB k)) ∧ w' = W) := fun W => rscalar7_any k W
    clear hw
    generalize Wd.wordB k = wb at *
    cases wb
    · simp only [Bool.false_and] at hR; subst hR
      go_enter Try.func45, Try.ntmps45
      go_wp2_with (go_at_call 55; refine (HC.out _).mono ?_; rintro e w3 ⟨rfl, rfl⟩)
      all_goals (go_ret; exact ⟨rfl, HG.out⟩)
    · have HRh : Hid (R = ((el == 0) && (nn == 0) && ((nf : Int) == 0))) := by show R = _; rw [hR]; simp
      clear hR
      by_cases hel : el = 0
      · subst hel
        go_enter Try.func45, Try.ntmps45
        go_wp2_with (go_at_call 55; refine (HC.out _).mono ?_; rintro e w3 ⟨rfl, rfl⟩)
        all_goals (go_ret; exact ⟨ret_bool (by rw [HRh.out]; first | (simp_all; done) | (rw [Bool.eq_iff_iff]; simp at *; omega)), by simpa [*] using HG.out⟩)
      · have hel' : (el == 0) = false := by simpa using hel
        clear hel
        go_enter Try.func45, Try.ntmps45
        go_wp2_with (go_at_call 55; refine (HC.out _).mono ?_; rintro e w3 ⟨rfl, rfl⟩)
        all_goals (go_ret; exact ⟨ret_bool (by rw [HRh.out]; first | (simp_all; done) | (rw [Bool.eq_iff_iff]; simp at *; omega)), by simpa [*] using HG.out⟩)
end Go.Proofs.Ytdfjaedafampaaa
