/- A region that draws its order, whose operations each establish what is known of their own value, whatever came ahead; what the world may turn to in between is told by a relation of one's own. A store may be among them. -/
import Derived.Test.YtpcgkggpmipiaaaGreatG3
namespace Go.Proofs.YtpcgkggpmipiaaaGreat
set_option maxRecDepth 100000
set_option maxHeartbeats 32000000
open Go.RowKit
set_option linter.unusedVariables false
section
variable {P : Program} {ops : Array Oper} {R : World → World → Prop}
def stepVR (P : Program) (ops : Array Oper) (R : World → World → Prop) (Ψ : Nat → Value → World → Prop) (i : Nat) (a : Act) (w : World) : Prop :=
 match ops[i]? with
 | none => False
 | some o => match (execOp a.eval o).run P w with
  | .ok (.value v) w' => (dstOf ops i).isSome = true ∧ R w w' ∧ Ψ i v w'
  | .ok .skip w' => R w w' ∧ Ψ i undef w'
  | .ok (.enter f args) w' => (dstOf ops i).isSome = true ∧ Calls P f args w' (fun e w'' => ∃ v, e = .returned v ∧ R w w'' ∧ Ψ i v w'')
  | _ => False
def dstR (ops : Array Oper) (n sz : Nat) : Bool :=
 (List.range n).all fun i => (match dstOf ops i with | some d => decide (d < sz) | none => true) && (List.range n).all fun j => i == j || dstOf ops i == none || !(dstOf ops i == dstOf ops j)
theorem dstR_lt {n sz i d : Nat} (h : dstR ops n sz = true) (hi : i < n) (hd : dstOf ops i = some d) : d < sz := by
 have h1 := List.all_eq_true.1 h i (List.mem_range.2 hi)
 simp only [hd, Bool.and_eq_true, decide_eq_true_eq] at h1
 exact h1.1
theorem dstR_ne {n sz i j d : Nat} (h : dstR ops n sz = true) (hi : i < n) (hj : j < n) (hij : i ≠ j) (hd : dstOf ops i = some d) : dstOf ops j ≠ some d := by
 have h1 := List.all_eq_true.1 h i (List.mem_range.2 hi)
 simp only [Bool.and_eq_true] at h1
 have h2 := List.all_eq_true.1 h1.2 j (List.mem_range.2 hj)
 simp only [hd, Bool.or_eq_true, beq_iff_eq, hij, false_or, Bool.not_eq_true', beq_eq_false_iff_ne] at h2
 rcases h2 with h2 | h2
 ·simp at h2
 ·exact fun e => h2 e.symm
def outR (P : Program) (ops : Array Oper) (R : World → World → Prop) (Ψ : Nat → Value → World → Prop) (i : Nat) (w : World) : Result Next → Prop
 | .ok (.value v) w' => (dstOf ops i).isSome = true ∧ R w w' ∧ Ψ i v w'
 | .ok .skip w' => R w w' ∧ Ψ i undef w'
 | .ok (.enter f args) w' => (dstOf ops i).isSome = true ∧ Calls P f args w' (fun e w'' => ∃ v, e = .returned v ∧ R w w'' ∧ Ψ i v w'')
 | _ => False
theorem outR_val {Ψ : Nat → Value → World → Prop} {i : Nat} {w w' : World} {v : Value} {r : Result Next} (hd : (dstOf ops i).isSome = true) (hr : r = .ok (.value v) w') (hg : R w w') (hv : Ψ i v w') : outR P ops R Ψ i w r := by
 rw [hr]; exact ⟨hd, hg, hv⟩
theorem outR_call {Ψ : Nat → Value → World → Prop} {i : Nat} {w : World} {f : FuncId} {args : Array Value} {r : Result Next} (hd : (dstOf ops i).isSome = true) (hr : r = .ok (.enter f args) w) (hc : Calls P f args w fun e w'' => ∃ v, e = .returned v ∧ R w w'' ∧ Ψ i v w'') : outR P ops R Ψ i w r := by
 rw [hr]; exact ⟨hd, hc⟩
end
end Go.Proofs.YtpcgkggpmipiaaaGreat
