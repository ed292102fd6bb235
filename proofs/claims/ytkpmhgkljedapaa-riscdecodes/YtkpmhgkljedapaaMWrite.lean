/- mem.write at each width: contracts. -/
import Derived.Test.YtkpmhgkljedapaaMRead
namespace Go.Proofs.Ytkpmhgkljedapaa
open Go.RowKit
set_option linter.unusedVariables false

theorem row_put {w : World} {D S a k : Nat} {t : TypeId} {m g : Nat → Int} (h : w.rowIs D t S (fun i => .int .u8 (Mm.pt m a k g i))) :
    (w.setCell ⟨D, a + k, none⟩ (.int .u8 (g k))).rowIs D t S (fun i => .int .u8 (Mm.pt m a (k + 1) g i)) := by
  refine (h.set (a + k) _).congr fun i _ => ?_
  rw [← Mm.pt_succ]
  show (if i = a + k then Value.int .u8 (g k) else _) = _
  by_cases e : i = a + k
  · simp [e]
  · simp [e]

theorem row_put' {w : World} {D S a k : Nat} {t : TypeId} {m g : Nat → Int} {y : Int} (h : w.rowIs D t S (fun i => .int .u8 (Mm.pt m a k g i))) (e : y = g k) :
    (w.setCell ⟨D, a + k, none⟩ (.int .u8 y)).rowIs D t S (fun i => .int .u8 (Mm.pt m a (k + 1) g i)) := by rw [e]; exact row_put h

theorem by8_top {x : Int} {k : Nat} (h : k = 0) (x1 : 0 ≤ x) (x2 : x < 256) : x / 2 ^ (8 * k) = Mm.by8 x k := by subst h; simp [Mm.by8]; omega

theorem by8_eq (x : Int) (k : Nat) : x / 2 ^ (8 * k) % 256 = Mm.by8 x k := by rw [Mm.pow8]; rfl

end Go.Proofs.Ytkpmhgkljedapaa
