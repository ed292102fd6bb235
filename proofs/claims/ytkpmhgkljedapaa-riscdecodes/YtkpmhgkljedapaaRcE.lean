/- risc.fits: its contract. -/
import Derived.Test.YtkpmhgkljedapaaRcD
import Derived.Test.YtkpmhgkljedapaaFBin
import Derived.Test.YtkpmhgkljedapaaUn
import Derived.Test.YtkpmhgkljedapaaConv
namespace Go.Proofs.Ytkpmhgkljedapaa
open Go.RowKit
set_option linter.unusedVariables false

namespace Rc
def fitB (v : InV) : Bool := !(v.op == 0) && regB v.a && regB v.b && regB v.c && kindB v
/-- an error of the kind alone says that there is no such operation -/
theorem bin_e (s k : Int) : ((Fl.binA s k 0 0).2 == 10) = !Wd.hasBinB s k := by
  unfold Fl.binA Fl.binF Wd.binI
  by_cases hk : k = 10
  · subst hk; rw [if_pos rfl]; cases Wd.hasBinB s 10 <;> rfl
  · rw [if_neg hk]
    cases Wd.hasBinB s k
    · rfl
    · rw [if_neg (by simp)]
      repeat' split
      all_goals rfl
theorem un_e (s k : Int) : ((Wd.unI s k 0).2 == 10) = !Wd.hasUnB s k := by
  unfold Wd.unI
  cases Wd.hasUnB s k
  · rfl
  · rw [if_neg (by simp)]
    repeat' split
    all_goals rfl
theorem conv_e (s k : Int) : ((Fl.convA s k 0).2 == 10) = !(Wd.numB s && Wd.numB k) := by
  unfold Fl.convA
  cases (Wd.numB s && Wd.numB k)
  · rfl
  · rw [if_neg (by simp)]
    repeat' split
    all_goals rfl
theorem wid_e (k : Int) : decide (0 < Wd.wid k) = Wd.wordB k := by
  unfold Wd.wid Wd.wordB
  rw [Bool.eq_iff_iff]
  simp only [decide_eq_true_eq, Bool.and_eq_true]
  repeat' split
  all_goals omega
theorem bin_ne (s k : Int) : ((Fl.binA s k 0 0).2 != 10) = Wd.hasBinB s k := by rw [bne, bin_e]; simp
theorem un_ne (s k : Int) : ((Wd.unI s k 0).2 != 10) = Wd.hasUnB s k := by rw [bne, un_e]; simp
theorem conv_ne (s k : Int) : ((Fl.convA s k 0).2 != 10) = (Wd.numB s && Wd.numB k) := by rw [bne, conv_e]; simp
theorem fit_c (v : InV) : fitB v = (!(v.op == 0) && regB v.a && regB v.b && regB v.c && kindC v) := by unfold fitB; rw [kind_c]
end Rc

set_option maxHeartbeats 8000000 in
theorem fits_any (v : InV) (w : World) :
    Calls Try.prog 32 #[inst v] w fun e w' => e = .returned (.bool (Rc.fitB v)) ∧ w.grownBy w' none := by
  unfold inst
  go_enter Try.func32, Try.ntmps32
  go_wp2_with (first
    | (go_at_call 35; refine (isReg_any _ _).mono ?_; rintro e w' ⟨rfl, rfl⟩)
    | (go_at_call 36; refine (binA_any _ _ 0 0 _ (by decide) (by decide) (by decide) (by decide)).mono ?_; rintro e w' ⟨rfl, n, rfl⟩)
    | (go_at_call 37; refine (un_any _ _ 0 _ (by decide) (by decide)).mono ?_; rintro e w' ⟨rfl, rfl⟩)
    | (go_at_call 38; refine (conv_any _ _ 0 _ (by decide) (by decide)).mono ?_; rintro e w' ⟨rfl, rfl⟩)
    | (go_at_call 39; refine (width_any _ _).mono ?_; rintro e w' ⟨rfl, rfl⟩))
  all_goals
    go_ret
    refine ⟨ret_bool ?_, ?_⟩
    · rw [Rc.fit_c]
      try rw [Rc.bin_ne]
      try rw [Rc.un_ne]
      try rw [Rc.conv_ne]
      try rw [Rc.wid_e]
      unfold Rc.kindC
      first | (simp [*]; done) | (simp_all; done) | (simp_all; omega)
    · first | exact World.grownBy_alloc _ _ _ | exact grown_drewN (World.grownBy_alloc _ _ _) _

end Go.Proofs.Ytkpmhgkljedapaa
