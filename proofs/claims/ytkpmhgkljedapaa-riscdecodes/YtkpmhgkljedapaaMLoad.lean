/- (*Mem).Load, Store: contracts. -/
import Derived.Test.YtkpmhgkljedapaaMNew
namespace Go.Proofs.Ytkpmhgkljedapaa
open Go.RowKit
set_option linter.unusedVariables false

namespace Mm
/-- do n bytes from a on lie in a memory of S bytes? -/
def hasB (S : Nat) (a n : Int) : Bool := decide (4096 ≤ a) && decide (a + n ≤ S)
/-- what Load, Store answer -/
def lE (S : Nat) (k a : Int) : Int := if Wd.wordB k then (if hasB S a (Wd.by' k) then 0 else 21) else 10
def lV (S : Nat) (m : Nat → Int) (k a : Int) : Int := if Wd.wordB k && hasB S a (Wd.by' k) then Wd.canon k (ld m a.toNat (Wd.by' k).toNat) else 0
def sE (S : Nat) (k a x : Int) : Int := if Wd.wordB k then (if Wd.isB k x then (if hasB S a (Wd.by' k) then 0 else 21) else 11) else 10
def sM (S : Nat) (m : Nat → Int) (k a x : Int) : Nat → Int := if Wd.wordB k && Wd.isB k x && hasB S a (Wd.by' k) then pt m a.toNat (Wd.by' k).toNat (by8 x) else m
theorem by_cases (k : Int) : (Wd.wordB k = false ∧ Wd.by' k = 0) ∨ (Wd.wordB k = true ∧ (Wd.by' k = 1 ∨ Wd.by' k = 2 ∨ Wd.by' k = 4 ∨ Wd.by' k = 8)) := by
  rcases Wd.kinds k with h | h | h | h | h | h | h | h | h | h | h | h
  all_goals first
    | (subst h; right; exact ⟨rfl, by decide⟩)
    | (left; constructor
       · unfold Wd.wordB; simp; omega
       · unfold Wd.by' Wd.wid; rw [if_neg (by omega), if_neg (by omega), if_neg (by omega), if_neg (by omega), if_neg (by omega)]; rfl)
theorem lE_no {S : Nat} {k a : Int} (h : Wd.wordB k = false) : lE S k a = 10 := by unfold lE; rw [h]; rfl
theorem lV_no {S : Nat} {m : Nat → Int} {k a : Int} (h : Wd.wordB k = false) : lV S m k a = 0 := by unfold lV; rw [h]; rfl
theorem lE_out {S : Nat} {k a : Int} (h : Wd.wordB k = true) (h2 : hasB S a (Wd.by' k) = false) : lE S k a = 21 := by unfold lE; rw [h, h2]; rfl
theorem lV_out {S : Nat} {m : Nat → Int} {k a : Int} (h2 : hasB S a (Wd.by' k) = false) : lV S m k a = 0 := by unfold lV; rw [h2, Bool.and_false]; rfl
theorem lE_in {S : Nat} {k a : Int} (h : Wd.wordB k = true) (h2 : hasB S a (Wd.by' k) = true) : lE S k a = 0 := by unfold lE; rw [h, h2]; rfl
theorem lV_in {S : Nat} {m : Nat → Int} {k a : Int} (h : Wd.wordB k = true) (h2 : hasB S a (Wd.by' k) = true) : lV S m k a = Wd.canon k (ld m a.toNat (Wd.by' k).toNat) := by unfold lV; rw [h, h2]; rfl
theorem sE_no {S : Nat} {k a x : Int} (h : Wd.wordB k = false) : sE S k a x = 10 := by unfold sE; rw [h]; rfl
theorem sM_no {S : Nat} {m : Nat → Int} {k a x : Int} (h : Wd.wordB k = false) : sM S m k a x = m := by unfold sM; rw [h]; rfl
theorem sE_form {S : Nat} {k a x : Int} (h : Wd.wordB k = true) (h1 : Wd.isB k x = false) : sE S k a x = 11 := by unfold sE; rw [h, h1]; rfl
theorem sM_form {S : Nat} {m : Nat → Int} {k a x : Int} (h1 : Wd.isB k x = false) : sM S m k a x = m := by unfold sM; rw [h1, Bool.and_false]; rfl
theorem sE_out {S : Nat} {k a x : Int} (h : Wd.wordB k = true) (h1 : Wd.isB k x = true) (h2 : hasB S a (Wd.by' k) = false) : sE S k a x = 21 := by unfold sE; rw [h, h1, h2]; rfl
theorem sM_out {S : Nat} {m : Nat → Int} {k a x : Int} (h2 : hasB S a (Wd.by' k) = false) : sM S m k a x = m := by unfold sM; rw [h2, Bool.and_false]; rfl
theorem sE_in {S : Nat} {k a x : Int} (h : Wd.wordB k = true) (h1 : Wd.isB k x = true) (h2 : hasB S a (Wd.by' k) = true) : sE S k a x = 0 := by unfold sE; rw [h, h1, h2]; rfl
theorem sM_in {S : Nat} {m : Nat → Int} {k a x : Int} (h : Wd.wordB k = true) (h1 : Wd.isB k x = true) (h2 : hasB S a (Wd.by' k) = true) : sM S m k a x = pt m a.toNat (Wd.by' k).toNat (by8 x) := by unfold sM; rw [h, h1, h2]; rfl
theorem has_in {S : Nat} {a n : Int} (h : hasB S a n = true) : 4096 ≤ a ∧ a + n ≤ S := by unfold hasB at h; simpa using h
theorem has_out {S : Nat} {a n : Int} (h : hasB S a n = false) : a < 4096 ∨ (S : Int) < a + n := by unfold hasB at h; simp at h; omega
theorem pow_le {n : Nat} (h : n = 1 ∨ n = 2 ∨ n = 4 ∨ n = 8) : (256 : Int) ^ n ≤ 18446744073709551616 := by rcases h with rfl | rfl | rfl | rfl <;> decide
end Mm

theorem row_cells {w : World} {D S a n : Nat} {m : Nat → Int} {t : TypeId} (h : w.rowIs D t S (fun i => .int .u8 (m i))) (hS : a + n ≤ S) : ∀ i, i < n → w.cell? ⟨D, a + i, none⟩ = some (.int .u8 ((fun i => m (a + i)) i)) :=
  fun i hi => h.cell (i := a + i) (by omega)

theorem tup2 {a a' : Value} {b b' : Value} (h1 : a = a') (h2 : b = b') : Ending.returned (.tuple #[a, b]) = .returned (.tuple #[a', b']) := by rw [h1, h2]

end Go.Proofs.Ytkpmhgkljedapaa
