/- gantryref6's small ones: Jumps, Is, mayInst. -/
import Derived.Test.YtkiockffejlnhaaGreatDoorLkLink
import Derived.Test.YtkiockffejlnhaaGreatDoorG27
namespace Go.Proofs.YtkiockffejlnhaaGreatDoor
open Go.RowKit
set_option linter.unusedVariables false
theorem rjumps_any (op : Int) (w : World) : Calls Tryz.prog 30 #[.int .i64 op] w fun e w' => e = .returned (.bool (Lk.jmpB op)) ∧ w' = w := by
  have hc : op = 19 ∨ op = 20 ∨ op = 21 ∨ op = 22 ∨ (Lk.jmpB op = false ∧ (op == 19) = false ∧ (op == 20) = false ∧ (op == 21) = false ∧ (op == 22) = false) := by
    unfold Lk.jmpB
    cases h1 : op == 19 <;> cases h2 : op == 20 <;> cases h3 : op == 21 <;> cases h4 : op == 22 <;> simp_all
  rcases hc with rfl | rfl | rfl | rfl | ⟨e, h1, h2, h3, h4⟩
  case inr.inr.inr.inr =>
    rw [e]
    clear e
    go_enter Tryz.func30, Tryz.ntmps30
    go_wp2
    go_ret
    exact ⟨rfl, rfl⟩
  all_goals (
    go_enter Tryz.func30, Tryz.ntmps30
    go_wp2
    go_ret
    exact ⟨rfl, rfl⟩)
theorem ris6_any {t : Int} (ht : t = 1 ∨ t = 2) (v : InV) (w : World) (hr : InRng v) : Calls Tryz.prog 50 #[.int .i64 t, .agg #[.int .i64 v.op, .int .i64 v.a, .int .i64 v.b, .int .i64 v.c, .int .i64 v.k, .int .i64 v.sub, .int .i64 v.scale, .int .i64 v.imm, .int .i64 v.label]] w fun e w' => e = .returned (.bool (Ru.mayT t v)) ∧ w.grownBy w' none := by
  have hA := World.grownBy_alloc w (Obj.cells #[.int .i64 v.op, .int .i64 v.a, .int .i64 v.b, .int .i64 v.c, .int .i64 v.k, .int .i64 v.sub, .int .i64 v.scale, .int .i64 v.imm, .int .i64 v.label] 50) none
  rcases ht with rfl | rfl
  · have H3 : Hid (∀ W, Calls Tryz.prog 68 #[.agg #[.int .i64 v.op, .int .i64 v.a, .int .i64 v.b, .int .i64 v.c, .int .i64 v.k, .int .i64 v.sub, .int .i64 v.scale, .int .i64 v.imm, .int .i64 v.label]] W fun e w' => e = .returned (.bool (Ru.mayT 1 v)) ∧ W.grownBy w' none) := fun W => rmay_any v W
    go_enter Tryz.func50, Tryz.ntmps50
    go_wp2_with (go_at_call 68; refine (H3.out _).mono ?_; rintro e w1 ⟨rfl, g1⟩)
    go_ret
    exact ⟨rfl, grown_trans hA g1⟩
  · have H4 : Hid (∀ W, Calls Tryz.prog 69 #[.agg #[.int .i64 v.op, .int .i64 v.a, .int .i64 v.b, .int .i64 v.c, .int .i64 v.k, .int .i64 v.sub, .int .i64 v.scale, .int .i64 v.imm, .int .i64 v.label]] W fun e w' => e = .returned (.bool (Ru.mayT 2 v)) ∧ W.grownBy w' none) := fun W => rmay4_any v W hr.i1 hr.i2
    go_enter Tryz.func50, Tryz.ntmps50
    go_wp2_with (go_at_call 69; refine (H4.out _).mono ?_; rintro e w1 ⟨rfl, g1⟩)
    go_ret
    exact ⟨rfl, grown_trans hA g1⟩
namespace Lk
theorem may_label (t : Int) (v : InV) : Ru.mayT t v = (v.label == 0 && Ru.mayT t (bare v)) := by
  cases h : v.label == 0
  · have h' : ¬ v.label = 0 := by simpa using h
    unfold Ru.mayT
    split
    · unfold Rc.mayB; simp [h']
    · unfold Cc.mayB; simp [h']
  · have : v.label = 0 := by simpa using h
    rw [bare_label this]
    rfl
theorem lab_no {m p : Int} {v : InV} (hj : jmpB v.op = true) (h : v.label < 0 ∨ m ≤ v.label ∨ v.imm ≠ 0) : labB m p v = false := by
  cases hl : labB m p v
  · rfl
  · have := lab_jmp hl hj
    omega
theorem lab_noc {m p : Int} {v : InV} (hc : v.op = 23) (h : v.label < 0 ∨ p ≤ v.label ∨ v.imm ≠ 0) : labB m p v = false := by
  cases hl : labB m p v
  · rfl
  · have := lab_call hl hc
    omega
theorem lab_yes {m p : Int} {v : InV} (h : (jmpB v.op = true ∧ v.label < m) ∨ (v.op = 23 ∧ v.label < p)) (h0 : 0 ≤ v.label) (hi : v.imm = 0) : labB m p v = true := by
  unfold labB
  rcases h with ⟨hj, hm⟩ | ⟨hc, hm⟩
  · rw [if_pos hj]; simp [h0, hi, hm]
  · rw [if_neg (by rw [hc]; decide), if_pos hc]; simp [h0, hi, hm]
end Lk
set_option maxRecDepth 100000 in
set_option maxHeartbeats 8000000 in
theorem rinst6_any {t : Int} (ht : t = 1 ∨ t = 2) (v : InV) (m p : Nat) (w : World) (hr : InRng v) : Calls Tryz.prog 27 #[.int .i64 t, .agg #[.int .i64 v.op, .int .i64 v.a, .int .i64 v.b, .int .i64 v.c, .int .i64 v.k, .int .i64 v.sub, .int .i64 v.scale, .int .i64 v.imm, .int .i64 v.label], .int .i64 m, .int .i64 p] w fun e w' => e = .returned (.bool (Lk.instB t m p v)) ∧ w.grownBy w' none := by
  have hrb : InRng (Lk.bare v) := ⟨hr.i1, hr.i2, hr.s1, hr.s2⟩
  obtain ⟨op, a, b, c, k, sub, sc, imm, lb⟩ := v
  simp only at *
  have HJ : Hid (∀ W, Calls Tryz.prog 30 #[.int .i64 op] W fun e w' => e = .returned (.bool (Lk.jmpB op)) ∧ w' = W) := fun W => rjumps_any op W
  have hA := World.grownBy_alloc w (Obj.cells #[.int .i64 op, .int .i64 a, .int .i64 b, .int .i64 c, .int .i64 k, .int .i64 sub, .int .i64 sc, .int .i64 imm, .int .i64 lb] 50) none
  obtain ⟨R, hR⟩ : ∃ R, R = Lk.instB t m p ⟨op, a, b, c, k, sub, sc, imm, lb⟩ := ⟨_, rfl⟩
  rw [← hR]
  cases hj : Lk.jmpB op
  · rw [hj] at HJ
    cases hc : op == 23
    · have hc' : ¬ op = 23 := by simpa using hc
      have e : R = Ru.mayT t ⟨op, a, b, c, k, sub, sc, imm, lb⟩ := by
        rw [hR, Lk.may_label]
        unfold Lk.instB Lk.labB
        rw [if_neg (by simp only; rw [hj]; decide), if_neg hc']
      have HI : Hid (∀ W, Calls Tryz.prog 50 #[.int .i64 t, .agg #[.int .i64 op, .int .i64 a, .int .i64 b, .int .i64 c, .int .i64 k, .int .i64 sub, .int .i64 sc, .int .i64 imm, .int .i64 lb]] W fun e w' => e = .returned (.bool R) ∧ W.grownBy w' none) := fun W => by rw [e]; exact ris6_any ht _ W hr
      clear e hR hc' hj
      go_enter Tryz.func27, Tryz.ntmps27
      go_wp2_with (first | (go_at_call 30; refine (HJ.out _).mono ?_; rintro e w1 ⟨rfl, hw1⟩; rw [hw1]; clear hw1 w1) | (go_at_call 50; refine (HI.out _).mono ?_; rintro e w2 ⟨rfl, g2⟩))
      go_ret
      exact ⟨rfl, grown_trans hA g2⟩
    · have hc' : op = 23 := by simpa using hc
      subst hc'
      by_cases hbad : lb < 0 ∨ (p : Int) ≤ lb ∨ imm ≠ 0
      · have e : R = false := by rw [hR]; unfold Lk.instB; rw [Lk.lab_noc rfl hbad]; rfl
        subst e
        clear hR hj hc
        rcases (show lb < 0 ∨ (0 ≤ lb ∧ (p : Int) ≤ lb) ∨ (0 ≤ lb ∧ lb < p ∧ imm ≠ 0) from by omega) with h1 | ⟨h1, h2⟩ | ⟨h1, h2, h3⟩
        · go_enter Tryz.func27, Tryz.ntmps27
          go_wp2_with (go_at_call 30; refine (HJ.out _).mono ?_; rintro e w1 ⟨rfl, hw1⟩; rw [hw1]; clear hw1 w1)
          all_goals first | (go_ret; exact ⟨rfl, hA⟩) | (exfalso; omega)
        · go_enter Tryz.func27, Tryz.ntmps27
          go_wp2_with (go_at_call 30; refine (HJ.out _).mono ?_; rintro e w1 ⟨rfl, hw1⟩; rw [hw1]; clear hw1 w1)
          all_goals first | (go_ret; exact ⟨rfl, hA⟩) | (exfalso; omega)
        · have h3' : (imm != 0) = true := by simpa using h3
          have d1 : decide (lb < 0) = false := by simp; omega
          have d2 : decide ((p : Int) ≤ lb) = false := by simp; omega
          have d3 : (0 : Int) < p := by omega
          go_enter Tryz.func27, Tryz.ntmps27
          go_wp2_with (go_at_call 30; refine (HJ.out _).mono ?_; rintro e w1 ⟨rfl, hw1⟩; rw [hw1]; clear hw1 w1)
          all_goals first | (go_ret; exact ⟨rfl, hA⟩) | (exfalso; omega)
      · have hi0 : imm = 0 := by omega
        subst hi0
        have e : R = Ru.mayT t (Lk.bare ⟨23, a, b, c, k, sub, sc, 0, lb⟩) := by rw [hR]; unfold Lk.instB; rw [Lk.lab_yes (.inr ⟨rfl, by simp only; omega⟩) (by simp only; omega) rfl]; rfl
        have HI : Hid (∀ W, Calls Tryz.prog 50 #[.int .i64 t, .agg #[.int .i64 23, .int .i64 a, .int .i64 b, .int .i64 c, .int .i64 k, .int .i64 sub, .int .i64 sc, .int .i64 0, .int .i64 0]] W fun e w' => e = .returned (.bool R) ∧ W.grownBy w' none) := fun W => by rw [e]; exact ris6_any ht _ W hrb
        have h1 : 0 ≤ lb := by omega
        have h2 : lb < p := by omega
        have hp0 : (0 : Int) < p := by omega
        have d1 : decide (lb < 0) = false := by simp; omega
        have d2 : decide ((p : Int) ≤ lb) = false := by simp; omega
        clear e hR hj hc hbad
        go_enter Tryz.func27, Tryz.ntmps27
        go_wp2_with (first | (go_at_call 30; refine (HJ.out _).mono ?_; rintro e w1 ⟨rfl, hw1⟩; rw [hw1]; clear hw1 w1) | (go_at_call 50; refine (HI.out _).mono ?_; rintro e w2 ⟨rfl, g2⟩))
        all_goals first | (go_ret; exact ⟨rfl, grown_trans (World.grownBy_alloc _ _ _) g2⟩) | (exfalso; omega)
  · rw [hj] at HJ
    have hop : (op == 23) = false := by
      have := Lk.jmpB_iff.1 hj
      simp
      omega
    by_cases hbad : lb < 0 ∨ (m : Int) ≤ lb ∨ imm ≠ 0
    · have e : R = false := by rw [hR]; unfold Lk.instB; rw [Lk.lab_no hj hbad]; rfl
      subst e
      clear hR hj
      rcases (show lb < 0 ∨ (0 ≤ lb ∧ (m : Int) ≤ lb) ∨ (0 ≤ lb ∧ lb < m ∧ imm ≠ 0) from by omega) with h1 | ⟨h1, h2⟩ | ⟨h1, h2, h3⟩
      · go_enter Tryz.func27, Tryz.ntmps27
        go_wp2_with (go_at_call 30; refine (HJ.out _).mono ?_; rintro e w1 ⟨rfl, hw1⟩; rw [hw1]; clear hw1 w1)
        all_goals first | (go_ret; exact ⟨rfl, hA⟩) | (exfalso; omega)
      · go_enter Tryz.func27, Tryz.ntmps27
        go_wp2_with (go_at_call 30; refine (HJ.out _).mono ?_; rintro e w1 ⟨rfl, hw1⟩; rw [hw1]; clear hw1 w1)
        all_goals first | (go_ret; exact ⟨rfl, hA⟩) | (exfalso; omega)
      · have h3' : (imm != 0) = true := by simpa using h3
        have d1 : decide (lb < 0) = false := by simp; omega
        have d2 : decide ((m : Int) ≤ lb) = false := by simp; omega
        have d3 : (0 : Int) < m := by omega
        go_enter Tryz.func27, Tryz.ntmps27
        go_wp2_with (go_at_call 30; refine (HJ.out _).mono ?_; rintro e w1 ⟨rfl, hw1⟩; rw [hw1]; clear hw1 w1)
        all_goals first | (go_ret; exact ⟨rfl, hA⟩) | (exfalso; omega)
    · have hi0 : imm = 0 := by omega
      subst hi0
      have e : R = Ru.mayT t (Lk.bare ⟨op, a, b, c, k, sub, sc, 0, lb⟩) := by rw [hR]; unfold Lk.instB; rw [Lk.lab_yes (.inl ⟨hj, by simp only; omega⟩) (by simp only; omega) rfl]; rfl
      have HI : Hid (∀ W, Calls Tryz.prog 50 #[.int .i64 t, .agg #[.int .i64 op, .int .i64 a, .int .i64 b, .int .i64 c, .int .i64 k, .int .i64 sub, .int .i64 sc, .int .i64 0, .int .i64 0]] W fun e w' => e = .returned (.bool R) ∧ W.grownBy w' none) := fun W => by rw [e]; exact ris6_any ht _ W hrb
      have h1 : 0 ≤ lb := by omega
      have h2 : lb < m := by omega
      have hp0 : (0 : Int) < m := by omega
      have d1 : decide (lb < 0) = false := by simp; omega
      have d2 : decide ((m : Int) ≤ lb) = false := by simp; omega
      clear e hR hj hbad
      go_enter Tryz.func27, Tryz.ntmps27
      go_wp2_with (first | (go_at_call 30; refine (HJ.out _).mono ?_; rintro e w1 ⟨rfl, hw1⟩; rw [hw1]; clear hw1 w1) | (go_at_call 50; refine (HI.out _).mono ?_; rintro e w2 ⟨rfl, g2⟩))
      all_goals first | (go_ret; exact ⟨rfl, grown_trans (World.grownBy_alloc _ _ _) g2⟩) | (exfalso; omega)
end Go.Proofs.YtkiockffejlnhaaGreatDoor
