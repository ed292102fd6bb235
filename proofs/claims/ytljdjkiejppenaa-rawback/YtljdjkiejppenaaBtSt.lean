/- gantryref8: the bytes of statements. -/
import Derived.Test.YtljdjkiejppenaaBtEx
namespace Go.Proofs.Ytljdjkiejppenaa
open Go.RowKit
set_option linter.unusedVariables false

theorem Pg.St.parts (x : Pg.St) (h : x.dl.may = true) : Pg.okB x.op = true ∧ (Pg.dExL x.args).may = true ∧ (Pg.dNumL x.dst).may = true ∧ (Pg.dStL x.a).may = true ∧ (Pg.dStL x.b).may = true ∧ x.dl.en = (Pg.dCnt x.op).en ++ (Pg.dNum x.n).en ++ (Pg.dExL x.args).en ++ (Pg.dNumL x.dst).en ++ (Pg.dStL x.a).en ++ (Pg.dStL x.b).en := by
  rw [Pg.St.dl_eq] at h ⊢
  simp only [Pg.Dl.node, Pg.Dl.app, Bool.and_eq_true] at h ⊢
  obtain ⟨h1, h2, h3, h4, h5, h6⟩ := h
  refine ⟨by rw [← dCnt_may]; exact h1, h3, h4, h5, h6, ?_⟩
  simp only [List.append_assoc]
end Go.Proofs.Ytljdjkiejppenaa
