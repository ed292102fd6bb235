/- Five cells in a row. -/
import Derived.Test.YtkiockffejlnhaaGreatDoorG1
namespace Go.Proofs.YtkiockffejlnhaaGreatDoor
open Go.RowKit
set_option linter.unusedVariables false
def row5 (a b c d e : Value) : Nat → Value
 | 0 => a
 | 1 => b
 | 2 => c
 | 3 => d
 | _ => e
theorem row5_new (w : World) (a b c d e : Value) (T : TypeId) : (w.alloc (Obj.cells #[a, b, c, d, e] T)).rowIs w.heap.size T 5 (row5 a b c d e) := by
 refine ⟨_, heap_alloc_new _ _, rfl, fun i hi => ?_⟩
 have hc : i = 0 ∨ i = 1 ∨ i = 2 ∨ i = 3 ∨ i = 4 := by omega
 rcases hc with rfl | rfl | rfl | rfl | rfl <;> rfl
theorem rowIs_grown {w w' : World} {b n : Nat} {T : TypeId} {f : Nat → Value} (h : w.rowIs b T n f) (g : w.grownBy w' none) : w'.rowIs b T n f := h.of_block (g.block _ h.lt (by simp))
theorem rowIs_five {w : World} {b : Nat} {T : TypeId} {a0 a1 a2 a3 a4 : Value} (h : w.rowIs b T 5 (row5 a0 a1 a2 a3 a4)) : w.cell? ⟨b, 0, none⟩ = some a0 ∧ w.cell? ⟨b, 1, none⟩ = some a1 ∧ w.cell? ⟨b, 2, none⟩ = some a2 ∧ w.cell? ⟨b, 3, none⟩ = some a3 ∧ w.cell? ⟨b, 4, none⟩ = some a4 ∧ ∀ k, w.frozen? ⟨b, k, none⟩ = false :=
 ⟨h.cell (i := 0) (by decide), h.cell (i := 1) (by decide), h.cell (i := 2) (by decide), h.cell (i := 3) (by decide), h.cell (i := 4) (by decide), h.frozen⟩
theorem row5_set1 {w : World} {b : Nat} {T : TypeId} {a0 a1 a2 a3 a4 : Value} (h : w.rowIs b T 5 (row5 a0 a1 a2 a3 a4)) (v : Value) : (w.setCell ⟨b, 1, none⟩ v).rowIs b T 5 (row5 a0 v a2 a3 a4) :=
 (h.set 1 v).congr fun i hi => by
  have hc : i = 0 ∨ i = 1 ∨ i = 2 ∨ i = 3 ∨ i = 4 := by omega
  rcases hc with rfl | rfl | rfl | rfl | rfl <;> rfl
def put5 (W : World) (R : Nat) (a b c d e : Value) : World := ((((W.setCell ⟨R, 0, none⟩ a).setCell ⟨R, 1, none⟩ b).setCell ⟨R, 2, none⟩ c).setCell ⟨R, 3, none⟩ d).setCell ⟨R, 4, none⟩ e
theorem grown_put5 (W : World) (R : Nat) (a b c d e : Value) : W.grownBy (put5 W R a b c d e) (some R) :=
 gtr (gtr (gtr (gtr (grown_setCell _ _ _ _) (grown_setCell _ _ _ _)) (grown_setCell _ _ _ _)) (grown_setCell _ _ _ _)) (grown_setCell _ _ _ _)
theorem row5_put {W : World} {R : Nat} {T : TypeId} {f : Nat → Value} (h : W.rowIs R T 5 f) (a b c d e : Value) : (put5 W R a b c d e).rowIs R T 5 (row5 a b c d e) :=
 (((((h.set 0 a).set 1 b).set 2 c).set 3 d).set 4 e).congr fun i hi => by
  have hc : i = 0 ∨ i = 1 ∨ i = 2 ∨ i = 3 ∨ i = 4 := by omega
  rcases hc with rfl | rfl | rfl | rfl | rfl <;> rfl
end Go.Proofs.YtkiockffejlnhaaGreatDoor
