/- Forms of R64's instructions, as plain numbers and as values; what the walks of this layer share. -/
import Derived.Test.YtkpmhgkljedapaaRcA
import Derived.Handy
import Derived.StillTailTactics
import Derived.Deep.RegionWith
namespace Go.Proofs.Ytkpmhgkljedapaa
open Go.RowKit
set_option linter.unusedVariables false

/-- a form's five numbers -/
structure FmV where
  code : Int
  a : Int
  b : Int
  c : Int
  n : Int
namespace Rc
def pk (v : InV) : FmV :=
  if v.op = 1 ∨ v.op = 2 ∨ v.op = 20 ∨ v.op = 21 then ⟨v.op, v.a, 0, 0, v.imm⟩ else if v.op = 3 ∨ v.op = 26 then ⟨v.op, v.a, v.b, 0, 0⟩
  else if v.op = 4 then ⟨v.op, v.a, v.b, v.c, wrap64 (v.k + 256 * v.sub)⟩ else if v.op = 7 ∨ v.op = 8 then ⟨v.op, v.a, v.b, 0, wrap64 (v.k + 256 * v.sub)⟩
  else if v.op = 9 then ⟨v.op, v.a, v.b, 0, v.imm⟩ else if v.op = 11 ∨ v.op = 13 then ⟨v.op, v.a, v.b, v.k, v.imm⟩ else if v.op = 15 then ⟨v.op, v.a, v.b, v.c, v.imm⟩
  else if v.op = 19 ∨ v.op = 23 ∨ v.op = 25 ∨ v.op = 29 then ⟨v.op, 0, 0, 0, v.imm⟩ else if v.op = 27 ∨ v.op = 28 then ⟨v.op, v.a, 0, 0, 0⟩ else if v.op = 24 then ⟨v.op, 0, 0, 0, 0⟩ else ⟨0, 0, 0, 0, 0⟩
def unpk (f : FmV) : InV :=
  if f.code = 1 ∨ f.code = 2 ∨ f.code = 20 ∨ f.code = 21 then ⟨f.code, f.a, 0, 0, 0, 0, 0, f.n, 0⟩ else if f.code = 3 ∨ f.code = 26 then ⟨f.code, f.a, f.b, 0, 0, 0, 0, 0, 0⟩
  else if f.code = 4 then ⟨f.code, f.a, f.b, f.c, f.n % 256, f.n / 256, 0, 0, 0⟩ else if f.code = 7 ∨ f.code = 8 then ⟨f.code, f.a, f.b, 0, f.n % 256, f.n / 256, 0, 0, 0⟩
  else if f.code = 9 then ⟨f.code, f.a, f.b, 0, 0, 0, 0, f.n, 0⟩ else if f.code = 11 ∨ f.code = 13 then ⟨f.code, f.a, f.b, 0, f.c, 0, 0, f.n, 0⟩ else if f.code = 15 then ⟨f.code, f.a, f.b, f.c, 0, 0, 0, f.n, 0⟩
  else if f.code = 19 ∨ f.code = 23 ∨ f.code = 25 ∨ f.code = 29 then ⟨f.code, 0, 0, 0, 0, 0, 0, f.n, 0⟩ else if f.code = 27 ∨ f.code = 28 then ⟨f.code, f.a, 0, 0, 0, 0, 0, 0, 0⟩ else if f.code = 24 then ⟨f.code, 0, 0, 0, 0, 0, 0, 0, 0⟩ else ⟨0, 0, 0, 0, 0, 0, 0, 0, 0⟩
end Rc
/-- as values -/
def inst (v : InV) : Value := .agg #[.int .i64 v.op, .int .i64 v.a, .int .i64 v.b, .int .i64 v.c, .int .i64 v.k, .int .i64 v.sub, .int .i64 v.scale, .int .i64 v.imm, .int .i64 v.label]
def formv (f : FmV) : Value := .agg #[.int .i64 f.code, .int .i64 f.a, .int .i64 f.b, .int .i64 f.c, .int .i64 f.n]

namespace Rc
theorem ops (o : Int) : o = 1 ∨ o = 2 ∨ o = 20 ∨ o = 21 ∨ o = 3 ∨ o = 26 ∨ o = 4 ∨ o = 7 ∨ o = 8 ∨ o = 9 ∨ o = 11 ∨ o = 13 ∨ o = 15 ∨ o = 19 ∨ o = 23 ∨ o = 25 ∨ o = 29 ∨ o = 27 ∨ o = 28 ∨ o = 24 ∨ ((o == 1) = false ∧ (o == 2) = false ∧ (o == 20) = false ∧ (o == 21) = false ∧ (o == 3) = false ∧ (o == 26) = false ∧ (o == 4) = false ∧ (o == 7) = false ∧ (o == 8) = false ∧ (o == 9) = false ∧ (o == 11) = false ∧ (o == 13) = false ∧ (o == 15) = false ∧ (o == 19) = false ∧ (o == 23) = false ∧ (o == 25) = false ∧ (o == 29) = false ∧ (o == 27) = false ∧ (o == 28) = false ∧ (o == 24) = false) := by
  by_cases h : (o = 1 ∨ o = 2 ∨ o = 20 ∨ o = 21 ∨ o = 3 ∨ o = 26 ∨ o = 4 ∨ o = 7 ∨ o = 8 ∨ o = 9 ∨ o = 11 ∨ o = 13 ∨ o = 15 ∨ o = 19 ∨ o = 23 ∨ o = 25 ∨ o = 29 ∨ o = 27 ∨ o = 28 ∨ o = 24)
  · omega
  · simp only [not_or] at h
    simp only [beq_eq_false_iff_ne]
    right; simp only [ne_eq]; omega
end Rc
theorem ret_v {a b : Value} (h : a = b) : Ending.returned a = .returned b := by rw [h]
theorem grown_alloc2 (w : World) (a b : Obj) : w.grownBy ((w.alloc a).alloc b) none := grown_trans (World.grownBy_alloc _ _ _) (World.grownBy_alloc _ _ _)

theorem grown_drew {w w' : World} {row : Option Nat} (h : w.grownBy w' row) : w.grownBy w'.drew row := grown_trans h ⟨rfl, rfl, rfl, Nat.le_refl _, fun _ _ _ => rfl⟩
theorem tail_drew {P : Program} {id : Nat} {Q : Exit → Act → World → Prop} {a : Act} {w : World} {l : List Oper} (n : Nat) (hm : P.follows .mixedOrders = true) (hB : Region.lexTailB .any l.toArray n = true)
    (h : wpStill P l.toArray w.drew (fun a' => wpList P l.toArray Q (l.drop n) a' w.drew) (l.take n) a) : (Code.region id l.toArray true).wp P Q a w := wp_region_still_tail n hm hB h

end Go.Proofs.Ytkpmhgkljedapaa
