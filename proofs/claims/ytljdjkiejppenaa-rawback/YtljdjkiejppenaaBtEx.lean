/- gantryref8: the bytes of terms. -/
import Derived.Test.YtljdjkiejppenaaG8
namespace Go.Proofs.Ytljdjkiejppenaa
open Go.RowKit
set_option linter.unusedVariables false

theorem Pg.Ex.parts (x : Pg.Ex) (h : x.dl.may = true) : Pg.okB x.op = true ∧ Pg.okB x.t = true ∧ x.s.size ≤ 256 ∧ Pg.okB (x.s.size : Int) = true ∧ (Pg.dExL x.args).may = true ∧ x.dl.en = (Pg.dCnt x.op).en ++ (Pg.dCnt x.t).en ++ (Pg.dNum x.n).en ++ (Pg.dCnt (x.s.size : Int)).en ++ Pg.txt x.s ++ (Pg.dExL x.args).en := by
  rw [Pg.Ex.dl_eq] at h ⊢
  simp only [Pg.Dl.node, Pg.Dl.app, Bool.and_eq_true] at h ⊢
  obtain ⟨h1, h2, h3, h4, h5⟩ := h
  have hs : x.s.size ≤ 256 := by
    unfold Pg.dTxt at h4
    by_cases hs : x.s.size ≤ 256
    · exact hs
    · rw [if_neg hs] at h4; cases h4
  have hok : Pg.okB (x.s.size : Int) = true := by simp [Pg.okB]; omega
  refine ⟨by rw [← dCnt_may]; exact h1, by rw [← dCnt_may]; exact h2, hs, hok, h5, ?_⟩
  have e : (Pg.dTxt x.s).en = (Pg.dCnt (x.s.size : Int)).en ++ Pg.txt x.s := by simp [Pg.dTxt, hs, Pg.dCnt, hok]
  rw [e]
  simp only [List.append_assoc]
end Go.Proofs.Ytljdjkiejppenaa
