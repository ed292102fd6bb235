/- mem.pick, mem.lay, (*Mem).room, New, Size: contracts. -/
import Derived.Test.YtkpmhgkljedapaaMWrite
import Derived.OwnWalk
namespace Go.Proofs.Ytkpmhgkljedapaa
open Go.RowKit
set_option linter.unusedVariables false

theorem lay_eq {w' : World} {D S off n N : Nat} {t : TypeId} {m : Nat → Int} {x : Int} (h : w'.rowIs D t S (fun i => .int .u8 (Mm.pt m off n (Mm.by8 (x % 256 ^ N)) i))) (hn : n ≤ N) :
    w'.rowIs D t S (fun i => .int .u8 (Mm.pt m off n (Mm.by8 x) i)) := by
  rw [Mm.pt_congr (g' := Mm.by8 x) (fun i hi => Mm.by8_mod x i N (by omega))] at h
  exact h

theorem IsMem.cell {t : TypeId} {w : World} {B D S : Nat} {m : Nat → Int} (h : IsMem t w B D S m) : w.cell? ⟨B, 0, none⟩ = some (.slice (some ⟨D, 0, none⟩) S S) := h.head.cell (i := 0) (by omega)

end Go.Proofs.Ytkpmhgkljedapaa
