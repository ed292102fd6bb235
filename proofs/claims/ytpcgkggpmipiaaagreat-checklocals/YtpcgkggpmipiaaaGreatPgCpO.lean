/- Copies of programs, and that they own their rows. -/
import Derived.Test.YtpcgkggpmipiaaaGreatPgCpF
namespace Go.Proofs.YtpcgkggpmipiaaaGreat
set_option maxRecDepth 100000
set_option maxHeartbeats 32000000
open Go.RowKit
set_option linter.unusedVariables false
theorem ownsRow_chg {w w' : World} {l : List Nat} {base : Nat} {ty : TypeId} {size : Nat} {v : Value} {n : Nat} {cs : List Value} (h : w.ownsRow base ty size v n cs) (g : Ch w w' l) (hl : ∀ q, v.ownBlock = some q → q ∉ l) : w'.ownsRow base ty size v n cs := by
 rcases h.2 with ⟨e1, e2⟩ | ⟨T, c, cur, e1, e2, e3, e4⟩
 ·exact ⟨h.1, .inl ⟨e1, e2⟩⟩
 ·refine ⟨h.1, .inr ⟨T, c, cur, e1, e2, ?_, e4⟩⟩
  rw [g.block T (Array.getElem?_eq_some_iff.1 e3).1 (hl T (by rw [e1]; rfl))]
  exact e3
end Go.Proofs.YtpcgkggpmipiaaaGreat
