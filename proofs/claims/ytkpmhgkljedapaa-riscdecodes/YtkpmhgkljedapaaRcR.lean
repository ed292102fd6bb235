/- What eight bytes are told to be: plain; and how worlds grow. -/
import Derived.Test.YtkpmhgkljedapaaRcG
namespace Go.Proofs.Ytkpmhgkljedapaa
open Go.RowKit
set_option linter.unusedVariables false

theorem ga {w w1 : World} (h : w.grownBy w1 none) (o : Obj) : w.grownBy (w1.alloc o) none := grown_trans h (World.grownBy_alloc _ _ _)
theorem gs {w w1 : World} (h : w.grownBy w1 none) {b : Nat} (i : Nat) (v : Value) (hb : w.heap.size ≤ b) : w.grownBy (w1.setCell ⟨b, i, none⟩ v) none := grown_two h (grown_setCell _ _ _ _) hb
theorem gn {w w1 : World} (h : w.grownBy w1 none) (n : Nat) : w.grownBy (w1.drewN n) none := grown_drewN h n
def zeroI : InV := ⟨0, 0, 0, 0, 0, 0, 0, 0, 0⟩
namespace Rc
/-- what eight bytes are told to be -/
def dv (g : Nat → Int) : InV := if okB g then rd g else zeroI
def de (g : Nat → Int) : Int := if okB g then 0 else 30
theorem dv_ok {g : Nat → Int} (h : okB g = true) : dv g = rd g := by unfold dv; rw [if_pos h]
theorem de_ok {g : Nat → Int} (h : okB g = true) : de g = 0 := by unfold de; rw [if_pos h]
theorem dv_no {g : Nat → Int} (h : okB g = false) : dv g = zeroI := by unfold dv; rw [if_neg (by simp [h])]
theorem de_no {g : Nat → Int} (h : okB g = false) : de g = 30 := by unfold de; rw [if_neg (by simp [h])]
theorem ok_wide {g : Nat → Int} (h : g 0 = 4 ∨ g 0 = 7 ∨ g 0 = 8) (hN : s32 (Mm.ld g 4 4) < 0 ∨ 65536 ≤ s32 (Mm.ld g 4 4)) : okB g = false := by
  unfold okB wideB
  have e : ((g 0 == 4 || g 0 == 7 || g 0 == 8) && (decide (s32 (Mm.ld g 4 4) < 0) || decide (65536 ≤ s32 (Mm.ld g 4 4)))) = true := by
    simp only [Bool.and_eq_true, Bool.or_eq_true, beq_iff_eq, decide_eq_true_eq]; omega
  rw [e]; rfl
theorem ok_in {g : Nat → Int} (hN : 0 ≤ s32 (Mm.ld g 4 4) ∧ s32 (Mm.ld g 4 4) < 65536) : okB g = mayB (rd g) := by
  unfold okB wideB
  have e : ((g 0 == 4 || g 0 == 7 || g 0 == 8) && (decide (s32 (Mm.ld g 4 4) < 0) || decide (65536 ≤ s32 (Mm.ld g 4 4)))) = false := by
    rw [Bool.and_eq_false_iff]; right; simp; omega
  rw [e]; rfl
theorem ok_other {g : Nat → Int} (h : ¬ (g 0 = 4 ∨ g 0 = 7 ∨ g 0 = 8)) : okB g = mayB (rd g) := by
  unfold okB wideB
  have e : ((g 0 == 4 || g 0 == 7 || g 0 == 8) && (decide (s32 (Mm.ld g 4 4) < 0) || decide (65536 ≤ s32 (Mm.ld g 4 4)))) = false := by
    rw [Bool.and_eq_false_iff]; left; simp; omega
  rw [e]; rfl
theorem rd_1 {g : Nat → Int} (h : g 0 = 4 ∨ g 0 = 7 ∨ g 0 = 8) : rd g = ⟨g 0, g 1, g 2, g 3, s32 (Mm.ld g 4 4) % 256, s32 (Mm.ld g 4 4) / 256, 0, 0, 0⟩ := by unfold rd; rw [if_pos h]
theorem rd_2 {g : Nat → Int} (h : g 0 = 11 ∨ g 0 = 13) : rd g = ⟨g 0, g 1, g 2, 0, g 3, 0, 0, s32 (Mm.ld g 4 4), 0⟩ := by unfold rd; rw [if_neg (by omega), if_pos h]
theorem rd_3 {g : Nat → Int} (h : ¬ (g 0 = 4 ∨ g 0 = 7 ∨ g 0 = 8)) (h' : ¬ (g 0 = 11 ∨ g 0 = 13)) : rd g = ⟨g 0, g 1, g 2, g 3, 0, 0, 0, s32 (Mm.ld g 4 4), 0⟩ := by unfold rd; rw [if_neg h, if_neg h']
end Rc


end Go.Proofs.Ytkpmhgkljedapaa
