/- gantryref8: how many nodes. -/
import Derived.Test.YtljdjkiejppenaaG6
import Derived.Test.YtljdjkiejppenaaPgMayP
namespace Go.Proofs.Ytljdjkiejppenaa
open Go.RowKit
set_option linter.unusedVariables false
namespace Pg
theorem dTxt_nd (s : ByteArray) : (dTxt s).nd = 0 ∧ (dTxt s).dp = 0 := by
  unfold dTxt
  split <;> exact ⟨rfl, rfl⟩
theorem dNums_nd (l : List Int) : (dNums l).nd = 0 ∧ (dNums l).dp = 0 := by
  induction l with
  | nil => exact ⟨rfl, rfl⟩
  | cons n l ih => simp [dNums, Dl.app, dCnt, ih]
theorem dNumL_nd (l : List Int) : (dNumL l).nd = 0 ∧ (dNumL l).dp = 0 := by simp [dNumL, Dl.app, dCnt, dNums_nd]
theorem dExL_nd (l : List Ex) : (dExL l).nd = (dCat Ex.dl l).nd ∧ (dExL l).dp = (dCat Ex.dl l).dp := by simp only [dExL, Dl.app, dCnt, dEs_cat]; exact ⟨by omega, by omega⟩
theorem dStL_nd (l : List St) : (dStL l).nd = (dCat St.dl l).nd ∧ (dStL l).dp = (dCat St.dl l).dp := by simp only [dStL, Dl.app, dCnt, dSs_cat]; exact ⟨by omega, by omega⟩
theorem Ex.nd_eq (x : Ex) : x.dl.nd = (dCat Ex.dl x.args).nd + 1 ∧ x.dl.dp = (dCat Ex.dl x.args).dp + 1 := by
  rw [Ex.dl_eq]
  simp only [Dl.node, Dl.app, dCnt, dNum, dTxt_nd, dExL_nd]
  exact ⟨by omega, by omega⟩
theorem St.nd_eq (x : St) : x.dl.nd = (dCat Ex.dl x.args).nd + (dCat St.dl x.a).nd + (dCat St.dl x.b).nd + 1 ∧ x.dl.dp = max (dCat Ex.dl x.args).dp (max (dCat St.dl x.a).dp (dCat St.dl x.b).dp) + 1 := by
  rw [St.dl_eq]
  simp only [Dl.node, Dl.app, dCnt, dNum, dNumL_nd, dExL_nd, dStL_nd]
  exact ⟨by omega, by omega⟩
theorem Fn.nd_eq (x : Fn) : x.dl.nd = (dCat St.dl x.body).nd ∧ x.dl.dp = (dCat St.dl x.body).dp := by
  simp only [Fn.dl, Dl.app, dCnt, dNumL_nd, dStL_nd]
  exact ⟨by omega, by omega⟩
theorem dTs_nd (l : List Tp) : (dTs l).nd = 0 ∧ (dTs l).dp = 0 := by
  induction l with
  | nil => exact ⟨rfl, rfl⟩
  | cons x l ih => simp [dTs, Dl.app, Tp.dl, dCnt, dNumL_nd, ih]
theorem Pr.nd_eq (p : Pr) : p.dl.nd = (dCat Fn.dl p.funcs).nd ∧ p.dl.dp = (dCat Fn.dl p.funcs).dp := by
  simp only [Pr.dl, Dl.app, dCnt, dTs_nd, dFs_cat]
  exact ⟨by omega, by omega⟩
end Pg
/-- what a count that stops beyond most tells -/
def Nt (most n r : Int) (s : Nat) : Prop := n ≤ r ∧ r ≤ n + s ∧ (r ≤ most → r = n + s)
theorem Nt.trans {most n q1 q2 : Int} {s1 s2 : Nat} (h1 : Nt most n q1 s1) (h2 : Nt most q1 q2 s2) : Nt most n q2 (s1 + s2) := by
  obtain ⟨a1, a2, a3⟩ := h1
  obtain ⟨b1, b2, b3⟩ := h2
  exact ⟨by omega, by omega, fun h => by have := a3 (by omega); have := b3 h; omega⟩
theorem Nt.over {most n r : Int} {s1 s2 : Nat} (h : Nt most n r s1) (hs : s1 ≤ s2) (hr : ¬ r ≤ most) : Nt most n r s2 := by
  obtain ⟨a1, a2, a3⟩ := h
  exact ⟨a1, by omega, fun h => absurd h hr⟩
end Go.Proofs.Ytljdjkiejppenaa
