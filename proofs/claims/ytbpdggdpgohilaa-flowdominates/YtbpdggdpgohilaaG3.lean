/- What an operation of a region reads: where its operands come from. -/
import Derived.Test.YtbpdggdpgohilaaRuInv
namespace Go.Proofs.Ytbpdggdpgohilaa
open Go.RowKit
set_option linter.unusedVariables false

/-- the last operation ahead of i that writes slot t -/
def srcOf (ops : Array Oper) (t : Nat) : Nat → Option Nat
  | 0 => none
  | i + 1 => if dstOf ops i = some t then some i else srcOf ops t i
theorem eval_of {a : Act} {t : Nat} {v : Value} (h : a.tmps[t]? = some v) : a.eval (.tmp t) = v := by
  simp [Act.eval, Array.getD_eq_getD_getElem?, h]
theorem frV_at {ops : Array Oper} {a : Act} {V : Nat → Value} {t j : Nat} (ht : t < a.tmps.size) : ∀ {i : Nat}, srcOf ops t i = some j → (frV ops a V i).tmps[t]? = some (V j)
  | 0, h => by cases h
  | i + 1, h => by
    unfold srcOf at h
    show ((frV ops a V i).put (dstOf ops i) (V i)).tmps[t]? = some (V j)
    by_cases hd : dstOf ops i = some t
    · rw [if_pos hd] at h
      obtain rfl : i = j := Option.some.inj h
      rw [hd, put_same _ _ _ (by rw [frV_size]; exact ht)]
    · rw [if_neg hd] at h
      rw [put_other _ _ hd]
      exact frV_at ht h
theorem frV_at0 {ops : Array Oper} {a : Act} {V : Nat → Value} {t : Nat} : ∀ {i : Nat}, srcOf ops t i = none → (frV ops a V i).tmps[t]? = a.tmps[t]?
  | 0, _ => rfl
  | i + 1, h => by
    unfold srcOf at h
    show ((frV ops a V i).put (dstOf ops i) (V i)).tmps[t]? = _
    by_cases hd : dstOf ops i = some t
    · rw [if_pos hd] at h; cases h
    · rw [if_neg hd] at h
      rw [put_other _ _ hd]
      exact frV_at0 h
theorem frV_src {ops : Array Oper} {a : Act} {V : Nat → Value} {t j i : Nat} (hs : srcOf ops t i = some j) (ht : t < a.tmps.size) : (frV ops a V i).eval (.tmp t) = V j := eval_of (frV_at ht hs)
theorem frV_src0 {ops : Array Oper} {a : Act} {V : Nat → Value} {t i : Nat} {v : Value} (hs : srcOf ops t i = none) (hv : a.tmps[t]? = some v) : (frV ops a V i).eval (.tmp t) = v := eval_of ((frV_at0 hs).trans hv)
section
variable {P : Program}
/-- what an operation's run must show -/
def outO (P : Program) (Ψ : Nat → Value → World → Prop) (i : Nat) (w : World) : Result Next → Prop
  | .ok (.value v) w' => w.grownBy w' none ∧ Ψ i v w'
  | .ok .skip w' => w.grownBy w' none ∧ Ψ i undef w'
  | .ok (.enter f args) w' => Calls P f args w' (fun e w'' => ∃ v, e = .returned v ∧ w.grownBy w'' none ∧ Ψ i v w'')
  | _ => False
theorem outO_val {Ψ : Nat → Value → World → Prop} {i : Nat} {w w' : World} {v : Value} {r : Result Next} (hr : r = .ok (.value v) w') (hg : w.grownBy w' none) (hv : Ψ i v w') : outO P Ψ i w r := by
  rw [hr]; exact ⟨hg, hv⟩
theorem outO_call {Ψ : Nat → Value → World → Prop} {i : Nat} {w : World} {f : FuncId} {args : Array Value} {r : Result Next} (hr : r = .ok (.enter f args) w) (hc : Calls P f args w fun e w'' => ∃ v, e = .returned v ∧ w.grownBy w'' none ∧ Ψ i v w'') : outO P Ψ i w r := by
  rw [hr]; exact hc
theorem ov {Ψ : Nat → Value → World → Prop} {i : Nat} {w : World} {v : Value} {r : Result Next} (hr : r = .ok (.value v) w) (hv : Ψ i v w) : outO P Ψ i w r := outO_val hr (World.grownBy.refl _ _) hv
theorem gdd {w w' : World} (g : w.drew.grownBy w' none) : w.grownBy w' none := grown_trans (grown_drew (World.grownBy.refl _ none)) g
/-- an operation, wherever it comes up: what it reads is what the ones ahead of it have left, or what stood there -/
def stepO (P : Program) (ops : Array Oper) (a : Act) (w : World) (Ψ : Nat → Value → World → Prop) (i : Nat) (o : Oper) : Prop :=
  ∀ (V : Nat → Value) (w' : World) (A : Act), w.drew.grownBy w' none → (∀ j, (depsOf ops i).contains j = true → Ψ j (V j) w') → (∀ t j, srcOf ops t i = some j → decide (t < a.tmps.size) = true → A.tmps[t]? = some (V j)) →
    (∀ t v, srcOf ops t i = none → a.tmps[t]? = some v → A.tmps[t]? = some v) → outO P Ψ i w' ((execOp A.eval o).run P w')
def stepsO (P : Program) (ops : Array Oper) (a : Act) (w : World) (Ψ : Nat → Value → World → Prop) : Nat → List Oper → Prop
  | _, [] => True
  | i, o :: rest => stepO P ops a w Ψ i o ∧ stepsO P ops a w Ψ (i + 1) rest
theorem stepsO_get {ops : Array Oper} {a : Act} {w : World} {Ψ : Nat → Value → World → Prop} : ∀ {l : List Oper} {k i : Nat} {o : Oper}, stepsO P ops a w Ψ k l → l[i]? = some o → stepO P ops a w Ψ (k + i) o
  | [], _, _, _, _, h => by simp at h
  | x :: l, k, 0, o, hs, h => by
    obtain rfl : x = o := by simpa using h
    exact hs.1
  | x :: l, k, i + 1, o, hs, h => by
    have := stepsO_get (i := i) hs.2 (by simpa using h)
    rwa [show k + 1 + i = k + (i + 1) by omega] at this
/-- region_inv, operation by operation -/
theorem region_src {id : Nat} {Q : Exit → Act → World → Prop} {a : Act} {w : World} {l : List Oper} (n : Nat) (Ψ : Nat → Value → World → Prop)
    (hm : P.follows .mixedOrders = true) (hB : Region.lexTailB .any l.toArray n = true) (hL : lookB l.toArray n = true) (hD : dstB l.toArray n a.tmps.size = true)
    (hst : ∀ i v w w', i < n → Ψ i v w → w.grownBy w' none → Ψ i v w')
    (hstep : stepsO P l.toArray a w Ψ 0 (l.take n))
    (hend : ∀ V w', w.drew.grownBy w' none → (∀ i, i < n → Ψ i (V i) w') → wpList P l.toArray Q (l.drop n) (frV l.toArray a V n) w') : (Code.region id l.toArray true).wp P Q a w := by
  have hn : n < l.length := by
    simp only [Region.lexTailB, Bool.and_eq_true, decide_eq_true_eq] at hB
    simpa using hB.1.1.1.2
  refine region_inv n Ψ hm hB hL hD hst (fun i hi V w' g hV => ?_) hend
  have ho : (l.take n)[i]? = some l[i] := by rw [List.getElem?_take, if_pos hi, List.getElem?_eq_getElem (by omega)]
  have h1 := stepsO_get hstep ho
  rw [Nat.zero_add] at h1
  have h2 := h1 V w' (frV l.toArray a V i) g hV (fun t j hs ht => frV_at (of_decide_eq_true ht) hs) (fun t v hs hv => (frV_at0 hs).trans hv)
  unfold stepV
  have ho' : l.toArray[i]? = some l[i] := by rw [List.getElem?_toArray, List.getElem?_eq_getElem (by omega)]
  rw [ho']
  exact h2
end
end Go.Proofs.Ytbpdggdpgohilaa
